"""Lifting: points 0.2, 0.3 and 3.4 to 3.9."""

import itertools

from tests.helpers import (FOUR, ONE, STRANGE, THREE, TWO, Case, all_sayings, bits, keeping, seeded, some_book,
                           some_kept_book, some_saying)
from usualdays.books import Book
from usualdays.errors import BadStart, OtherDays
from usualdays.lifting import Lifted, Stuck, lift, lifted_layers
from usualdays.liftjudge import lifted_fault, stuck_fault
from usualdays.marks import Marks
from usualdays.orders import Order
from usualdays.sayings import Saying

EXAMPLE = Book(Marks(["a", "b"]), [Saying(15, 5), Saying(10, 12), Saying(12, 5, usual=False)])


def plain_layers(sayings, start, end):
    """The least layers by raising one day at a time; at the end a day counts as lifted without end."""
    layers = list(start)
    raised = True
    while raised:
        raised = False
        for saying in sayings:
            floor = min([layers[day] for day in bits(saying.low)], default=end) + saying.step
            for day in bits(saying.high):
                if layers[day] < min(floor, end):
                    layers[day] = min(floor, end)
                    raised = True
    return tuple(None if layer >= end else layer for layer in layers)


def right(case, book, *further):
    """What lift returns, checked by the judges and against plain raising."""
    found = lift(book, *further)
    days = book.marks.days
    plain = plain_layers(list(book) + list(further), [0] * days, 20)
    case.assertEqual(lifted_layers(book, *further), plain)
    for thing in (found.reasons, found.heights):
        case.assertIs(type(thing), tuple)
        case.assertEqual(len(thing), days)
    if None in plain:
        case.assertIsInstance(found, Stuck)
        case.assertEqual(bits(found.days), [day for day in range(days) if plain[day] is None])
        case.assertIsNone(stuck_fault(book, found, *further))
    else:
        case.assertIsInstance(found, Lifted)
        case.assertEqual(found.order.layers, plain)
        case.assertIsNone(lifted_fault(book, found, *further))
    return found


class Lifting(Case):
    def against_all_orders(self, book, *further):
        found = right(self, book, *further)
        orders = keeping(book, *further)
        self.assertEqual(isinstance(found, Lifted), orders != [])
        if orders:
            least = tuple(min(layers) for layers in zip(*orders))
            self.assertEqual(found.order, Order(least))
            self.assertIn(least, orders)
            self.assertEqual(found.order.closed(), found.order)
            steps = sum(saying.step for saying in list(book) + list(further))
            self.assertLessEqual(max(least), steps)

    def test_3_5_all_books_of_up_to_two_sayings_of_one_mark(self):
        sayings = all_sayings(ONE)
        for many in range(4):
            for chosen in itertools.product(sayings, repeat=many):
                self.against_all_orders(Book(ONE, chosen))

    def test_3_5_all_books_of_one_saying_of_two_marks(self):
        for saying in all_sayings(TWO):
            self.against_all_orders(Book(TWO, [saying]))
            self.against_all_orders(Book(TWO, []), saying)

    def test_3_5_books_of_two_marks(self):
        chance = seeded(35)
        for _ in range(600):
            self.against_all_orders(some_book(chance, TWO, 6))
            self.against_all_orders(some_kept_book(chance, TWO, chance.randint(1, 12)))
            self.against_all_orders(some_book(chance, TWO, 3), some_saying(chance, TWO), some_saying(chance, TWO))

    def test_3_5_books_of_more_marks(self):
        chance = seeded(351)
        for marks in (THREE, FOUR):
            for _ in range(150):
                right(self, some_book(chance, marks, 12))
                right(self, some_kept_book(chance, marks, 12))
                right(self, some_kept_book(chance, marks, 12, usual=False))

    def test_3_5_few_days_make_many_layers(self):
        sayings = [Saying.of_days(2 ** day, 2 ** (day + 1)) for day in range(12)]
        found = right(self, Book(FOUR, sayings))
        self.assertEqual(found.order.layers, tuple(range(13)) + (0, 0, 0))
        self.assertEqual(found.reasons, (None,) + tuple(range(12)) + (None,) * 3)
        more = [Saying.of_days(2 ** day, 2 ** (day + 1)) for day in range(12, 15)]
        self.assertEqual(right(self, Book(FOUR, sayings), *more).order.layers, tuple(range(16)))
        stuck = right(self, Book(FOUR, sayings), Saying.of_days(2 ** 12, 1, False).contrary())
        self.assertEqual(stuck.days, 8191)

    def test_3_5_need_not_rings(self):
        ring = [Saying.of_days(4, 2, False), Saying.of_days(8, 4, False), Saying.of_days(2, 8, False)]
        self.assertEqual(right(self, Book(TWO, ring)).order, Order.flat(4))
        found = right(self, Book(TWO, ring), Saying.of_days(1, 2))
        self.assertEqual(found.order.layers, (0, 1, 1, 1))
        found = right(self, Book(TWO, ring[::-1]), Saying.of_days(8, 2))
        self.assertEqual(found.days, 14)
        self.assertEqual(right(self, Book(TWO, ring), Saying(14, 0)).days, 14)

    def test_3_5_empty_low_and_empty_high(self):
        self.assertEqual(right(self, Book(TWO, [Saying(15, 15), Saying(15, 0, False)])).order, Order.flat(4))
        found = right(self, Book(TWO, [Saying(3, 1), Saying(6, 6, False)]))
        self.assertEqual((found.days, found.grounds), (6, (1,)))
        found = right(self, Book(TWO, [Saying(4, 0)]))
        self.assertEqual((found.days, found.reasons, found.grounds), (4, (None, None, 0, None), (0,)))
        self.assertEqual(right(self, Book(ONE, [Saying(3, 0)])).days, 3)

    def test_3_5_empty_and_full_books_and_sayings_twice(self):
        for marks in (ONE, TWO, THREE, FOUR):
            found = right(self, Book(marks, []))
            self.assertEqual((found.order, found.reasons, found.grounds),
                             (Order.flat(marks.days), (None,) * marks.days, ()))
        twelve = Book(TWO, [Saying(10, 12)] * 12)
        self.assertEqual(right(self, twelve).order.layers, (0, 1, 0, 0))
        self.assertEqual(len(right(self, twelve).grounds), 1)

    def test_3_5_further_sayings_are_numbered_on(self):
        found = right(self, EXAMPLE, Saying(15, 15), Saying.of_days(2, 8))
        self.assertEqual(found.reasons, (None, 1, 2, 4))
        twelve = Book(TWO, [Saying(15, 15)] * 12)
        found = right(self, twelve, Saying(15, 15), Saying(15, 1))
        self.assertEqual((found.reasons, found.grounds), ((None, 13, 13, 13), (13,)))
        found = right(self, twelve, *[Saying(15, 15)] * 999, Saying(15, 0))
        self.assertEqual((found.days, found.grounds), (15, (1011,)))

    def test_0_8_a_thousand_further_sayings(self):
        chance = seeded(8)
        order = Order.lowered([chance.randint(0, 15) for _ in range(16)])
        sayings = [saying for saying in (some_saying(chance, FOUR) for _ in range(4000)) if order.keeps(saying)]
        self.assertIsInstance(right(self, Book(FOUR, []), *sayings[:1000]), Lifted)
        self.assertIsInstance(right(self, Book(FOUR, []), *sayings[:999], sayings[0].contrary()), Stuck)

    def test_3_5_other_days(self):
        for saying in (Saying(16, 1), Saying(1, 16), Saying(65535, 3, False)):
            self.refuses(OtherDays(), lift, EXAMPLE, saying)
            self.refuses(OtherDays(), lift, EXAMPLE, Saying(1, 1), saying)
            self.refuses(OtherDays(), lifted_layers, EXAMPLE, saying)

    def test_3_8_grounds(self):
        chance = seeded(38)
        for marks in (TWO, THREE, FOUR):
            for _ in range(200):
                book = some_book(chance, marks, 8)
                further = [some_saying(chance, marks) for _ in range(3)]
                found = lift(book, *further)
                wanted = sorted(set(number for number in found.reasons if number is not None))
                self.assertEqual(found.grounds, tuple(wanted))
                sayings = list(book) + further
                alone = lift(Book(marks, []), *[sayings[number] for number in found.grounds])
                if isinstance(found, Lifted):
                    self.assertEqual(alone.order, found.order)
                else:
                    self.assertEqual(alone.days, found.days)

    def test_0_6_results_keep_their_arguments(self):
        order, reasons, heights = Order([0, 1]), (None, 3), (0, 5)
        lifted = Lifted(order, reasons, heights)
        self.assertEqual(vars(lifted), {"order": order, "reasons": reasons, "heights": heights})
        stuck = Stuck(2, (None, 3), (0, 5))
        self.assertEqual(vars(stuck), {"days": 2, "reasons": reasons, "heights": heights})
        self.assertEqual((lifted.grounds, stuck.grounds), ((3,), (3,)))
        self.assertEqual(Stuck(7, (5, 0, 5, None), (0, 0, 0, 0)).grounds, (0, 5))
        self.assertEqual(Lifted(order, (None, None), heights).grounds, ())

    def test_example_of_part_3(self):
        L = lift(EXAMPLE)
        self.assertEqual((L.order.layers, L.reasons, L.grounds), ((0, 2, 1, 1), (None, 1, 2, 0), (0, 1, 2)))
        S = lift(EXAMPLE, Saying.of_days(2, 8))
        self.assertEqual((S.days, S.reasons, S.grounds), (14, (None, 1, 2, 3), (1, 2, 3)))
        self.assertEqual(lifted_layers(EXAMPLE, start=(0, 0, 5, 0)), (0, 2, 5, 1))
        self.assertEqual((L.order(EXAMPLE), Order.flat(4)(EXAMPLE)), (None, 0))


class FromAStart(Case):
    def test_3_9_from_small_starts(self):
        chance = seeded(39)
        for marks in (ONE, TWO, THREE, FOUR):
            for _ in range(150):
                book = some_book(chance, marks, 6) if chance.random() < 0.5 else some_kept_book(chance, marks, 8)
                start = [chance.choice((0, 0, 1, 2, 5, 9)) for _ in range(marks.days)]
                further = [some_saying(chance, marks)] if chance.random() < 0.3 else []
                plain = plain_layers(list(book) + further, start, 60)
                for given in (start, tuple(start)):
                    self.assertEqual(lifted_layers(book, *further, start=given), plain)

    def test_3_9_from_distant_starts(self):
        chance = seeded(391)
        for marks in (TWO, FOUR):
            for _ in range(150):
                book = some_kept_book(chance, marks, 10)
                places = [chance.choice((0, 0, 1, 2)) for _ in range(marks.days)]
                plain = plain_layers(book, [40 * place for place in places], 400)
                found = lifted_layers(book, start=[10 ** 29 * place for place in places])
                self.assertEqual(found, tuple(layer // 40 * 10 ** 29 + layer % 40 for layer in plain))

    def test_3_9_up_to_the_highest_start(self):
        top = 10 ** 30
        self.assertEqual(lifted_layers(EXAMPLE, start=[0, 0, 0, top]), (0, top + 1, top, top))
        self.assertEqual(lifted_layers(EXAMPLE, start=(0, top, 0, 0)), (0, top, 1, 1))
        self.assertEqual(lifted_layers(EXAMPLE, start=[top] * 4), (top, top + 2, top + 1, top + 1))
        self.assertEqual(lifted_layers(Book(ONE, []), start=[5, 7]), (5, 7))

    def test_3_9_days_without_end(self):
        self.assertEqual(lifted_layers(Book(TWO, [Saying(4, 0)]), start=(3, 0, 10 ** 30, 1)), (3, 0, None, 1))
        self.assertEqual(lifted_layers(EXAMPLE, Saying.of_days(2, 8)), (0, None, None, None))
        self.assertEqual(lifted_layers(Book(ONE, [Saying(3, 0)]), start=(10 ** 30, 0)), (None, None))

    def test_3_9_without_a_start(self):
        self.assertEqual(lifted_layers(EXAMPLE), (0, 2, 1, 1))
        self.assertEqual(lifted_layers(EXAMPLE, start=None), (0, 2, 1, 1))
        self.assertEqual(lifted_layers(EXAMPLE, start=(0, 0, 0, 0)), (0, 2, 1, 1))

    def test_3_9_starts_of_a_wrong_length(self):
        for start in ((), [0], (0, 0, 0), [0] * 5, (None,) * 3, [True] * 16):
            self.refuses(OtherDays(), lifted_layers, EXAMPLE, start=start)

    def test_3_9_starts_of_a_wrong_kind(self):
        for start in (0, True, "0000", {}, Order.flat(4), Order.flat(2), {0: 0, 1: 0, 2: 0, 3: 0}):
            self.refuses(BadStart(), lifted_layers, EXAMPLE, start=start)
        for thing in STRANGE + (10 ** 30 + 1,):
            self.refuses(BadStart(), lifted_layers, EXAMPLE, start=(0, 0, 0, thing))
            self.refuses(BadStart(), lifted_layers, EXAMPLE, start=[thing, 0, 0, 0])

    def test_0_7_order_of_the_errors(self):
        self.refuses(OtherDays(), lifted_layers, EXAMPLE, Saying(16, 1), start="x")
        self.refuses(OtherDays(), lifted_layers, EXAMPLE, Saying(16, 1), start=(0, 0, 0, None))

    def test_0_5_what_is_passed_in_stays(self):
        start = [0, 0, 5, 0]
        lifted_layers(EXAMPLE, start=start)
        self.assertEqual(start, [0, 0, 5, 0])
