"""Cores and fronts: points 4.6 to 4.8."""

from tests.helpers import (FOUR, ONE, STRANGE, THREE, TWO, Case, bits, keeping, lowest, plain_keeps, plain_tells,
                           seeded, some_book, some_kept_book)
from usualdays.books import Book
from usualdays.cores import Core, Front, core, core_fault, fronts
from usualdays.errors import BadDays, TooMany
from usualdays.lifting import Stuck, lift
from usualdays.liftjudge import stuck_fault
from usualdays.orders import Order
from usualdays.sayings import Saying
from usualdays.told import Told, tell

B = Book(TWO, [Saying(15, 5), Saying(10, 12)])
BROKEN = Book(TWO, [Saying(4, 0)])


def least_of(orders):
    return Order(tuple(min(layers) for layers in zip(*orders)))


def parts_of(where):
    return [part for part in range(1, where + 1) if part & ~where == 0]


class Cores(Case):
    def against_all_orders(self, book, where):
        answer = core(book, where)
        orders = keeping(book)
        lowest_in = {day: [layers for layers in orders if layers[day] == lowest(layers, where)] for day in bits(where)}
        days = [day for day in bits(where) if lowest_in[day]]
        self.assertEqual(bits(answer.days), days)
        self.assertIs(type(answer.orders), tuple)
        self.assertEqual(list(answer.orders), [least_of(lowest_in[day]) for day in days])
        self.assertIsNone(stuck_fault(book, answer.stuck, Saying(where, answer.days).contrary()))
        self.assertIsNone(core_fault(book, where, answer))
        self.assertEqual(answer.days == 0, orders == [])
        for then in range(book.marks.all_days + 1):
            self.assertEqual(plain_tells(book, Saying(where, then)), answer.days & ~then == 0)

    def test_4_6_all_orders(self):
        chance = seeded(46)
        for marks in (ONE, TWO):
            for _ in range(40):
                book = some_book(chance, marks, 5) if chance.random() < 0.5 else some_kept_book(chance, marks, 4)
                for _ in range(3):
                    self.against_all_orders(book, chance.randint(1, marks.all_days))

    def test_4_6_every_day_set_of_one_book(self):
        for book in (B, BROKEN, Book(TWO, []), Book(TWO, [Saying(15, 5, False), Saying(3, 1)])):
            for where in range(1, 16):
                self.against_all_orders(book, where)

    def test_4_6_more_marks(self):
        chance = seeded(461)
        for marks in (THREE, FOUR):
            for _ in range(40):
                book = some_kept_book(chance, marks, 12) if chance.random() < 0.8 else some_book(chance, marks, 12)
                where = chance.randint(1, marks.all_days)
                answer = core(book, where)
                self.assertIsNone(core_fault(book, where, answer))
                for day in bits(where):
                    told = isinstance(tell(book, Saying(where, where & ~(1 << day))), Told)
                    self.assertEqual(told, day not in bits(answer.days))
        self.assertEqual(core(Book(FOUR, []), 65535).days, 65535)

    def test_4_6_bad_days(self):
        for book in (B, BROKEN):
            for thing in STRANGE + (0, 16, 65535, [1]):
                for ask in (core, fronts):
                    self.refuses(BadDays(), ask, book, thing)
                self.refuses(BadDays(), core_fault, book, thing, core(B, 15))

    def test_0_6_results_keep_their_arguments(self):
        stuck, order = Stuck(1, (0, None), (0, 0)), Order([0, 1])
        self.assertEqual(vars(Core(1, (order,), stuck)), {"days": 1, "orders": (order,), "stuck": stuck})
        self.assertEqual(vars(Front(2, order)), {"days": 2, "order": order})


class Judging(Case):
    def setUp(self):
        self.right = core(B, 15)

    def judged(self, word, days, orders, stuck=None):
        self.assertEqual(core_fault(B, 15, Core(days, orders, stuck or self.right.stuck)), word)

    def test_4_7_right(self):
        self.assertEqual(self.right.days, 5)
        self.judged(None, 5, self.right.orders)
        self.judged(None, 5, (Order([0, 3, 1, 2]), Order([0, 5, 0, 3])))

    def test_4_7_days(self):
        for days in (16, 31, -1, 65535):
            self.judged("days", days, ())
        self.assertEqual(core_fault(B, 5, Core(6, (), self.right.stuck)), "days")
        self.assertEqual(core_fault(B, 12, Core(1, (), self.right.stuck)), "days")

    def test_4_7_orders(self):
        first, second = self.right.orders
        for orders in ((), (first,), (first, second, first), (first, Order([0, 2])), (Order.flat(8), second),
                       (first, Order.flat(4)), (Order([0, 1, 0, 1]), second), (first, Order([0, 2, 1, 1])),
                       (Order([1, 2, 0, 1]), second)):
            self.judged("orders", 5, orders)
            self.judged("orders", 5, orders, Stuck(0, (), ()))

    def test_4_7_stuck(self):
        first, second = self.right.orders
        self.judged("stuck", 5, (first, second), Stuck(0, (), ()))
        self.judged("stuck", 1, (first,))
        self.judged("stuck", 0, ())
        self.judged("stuck", 5, (first, second), lift(BROKEN))


class Fronts(Case):
    def against_all_orders(self, book, where):
        orders = keeping(book)
        kept = {part: [layers for layers in orders if plain_keeps(layers, Saying(where, part))]
                for part in parts_of(where)}
        possible = [part for part in kept if kept[part]]
        wanted = [part for part in possible if not any(o != part and o & ~part == 0 for o in possible)]
        wanted = sorted(wanted, key=lambda part: (len(bits(part)), part))
        found = fronts(book, where)
        self.assertIs(type(found), tuple)
        self.assertEqual([front.days for front in found], wanted)
        self.assertEqual([front.order for front in found], [least_of(kept[part]) for part in wanted])
        for then in range(book.marks.all_days + 1):
            told = plain_tells(book, Saying(where, then, False))
            self.assertEqual(told, not any(part & ~then == 0 for part in wanted))
        if all(saying.usual for saying in book):
            self.assertEqual(wanted, [2 ** day for day in bits(core(book, where).days)])
        return [len(bits(part)) for part in wanted]

    def test_4_8_all_orders(self):
        chance = seeded(48)
        sizes = set()
        for marks in (ONE, TWO):
            for _ in range(80):
                usual = chance.choice((None, None, True, False))
                book = some_kept_book(chance, marks, 4, usual) if chance.random() < 0.7 else some_book(
                    chance, marks, 5, usual)
                for where in (marks.all_days, chance.randint(1, marks.all_days)):
                    sizes.update(self.against_all_orders(book, where))
        self.assertLessEqual({1, 2}, sizes)

    def test_4_8_order_of_the_fronts(self):
        # Day 2 lies no lower than day 0 nor day 0 than day 2, so they come together.
        book = Book(TWO, [Saying.of_days(1, 4, False), Saying.of_days(4, 1, False)])
        self.assertEqual([front.days for front in fronts(book, 15)], [2, 8, 5])
        self.against_all_orders(book, 15)
        pairs = [Saying.of_days(1, 8, False), Saying.of_days(8, 1, False), Saying.of_days(2, 4, False),
                 Saying.of_days(4, 2, False)]
        self.assertEqual([front.days for front in fronts(Book(TWO, pairs), 15)], [6, 9])
        self.against_all_orders(Book(TWO, pairs), 15)

    def test_4_8_no_order(self):
        self.assertEqual(fronts(BROKEN, 3), ())

    def test_4_8_more_marks(self):
        chance = seeded(481)
        for marks in (THREE, FOUR):
            for _ in range(15):
                book = some_kept_book(chance, marks, 10)
                where = sum(2 ** day for day in chance.sample(range(marks.days), 6))
                found = fronts(book, where)
                for front in found:
                    self.assertTrue(front.order.keeps_all(book))
                    self.assertTrue(front.order.keeps(Saying(where, front.days)))
                    self.assertEqual(front.order, lift(book, Saying(where, front.days)).order)
                for part in parts_of(where):
                    told = isinstance(tell(book, Saying(where, part, False)), Told)
                    self.assertEqual(told, not any(front.days & ~part == 0 for front in found))

    def test_4_8_too_many(self):
        self.refuses(TooMany(7), fronts, Book(THREE, []), 127)
        self.refuses(TooMany(8), fronts, Book(THREE, []), 255)
        self.refuses(TooMany(16), fronts, Book(FOUR, [Saying(4, 0)]), 65535)
        self.assertEqual(len(fronts(Book(FOUR, []), 0b1010101010100000)), 6)
        self.assertEqual([front.days for front in fronts(Book(THREE, []), 252)], [4, 8, 16, 32, 64, 128])

    def test_example_of_part_4(self):
        found = fronts(B, 15)
        self.assertEqual((core(B, 15).days, core(B, 12).days, len(found), found[1].days), (5, 12, 2, 4))
