"""What the least order expects: points 6.1 and 6.2."""

from tests.helpers import (FOUR, ONE, THREE, TWO, Case, all_sayings, keeping, plain_keeps, plain_tells, seeded,
                           some_book,
                           some_kept_book, some_saying)
from usualdays.books import Book
from usualdays.errors import NoOrder, OtherDays
from usualdays.expecting import expects, least_order
from usualdays.lifting import Stuck, lift
from usualdays.liftjudge import stuck_fault
from usualdays.orders import Order
from usualdays.sayings import Saying

K = Book(TWO, [Saying(15, 10), Saying(15, 12)])
BROKEN = Book(TWO, [Saying(4, 0)])
FOREIGN = (Saying(16, 1), Saying(1, 16), Saying(65535, 3, False))


def plain_least(book, *further):
    orders = keeping(book, *further)
    return tuple(min(layers) for layers in zip(*orders)) if orders else None


class Expecting(Case):
    def no_order(self, ask, *args):
        """The call raises NoOrder with a right paper of the greatest stuck days for the book and the further ones."""
        with self.assertRaises(NoOrder) as caught:
            ask(*args)
        book, further = args[0], args[1:] if ask is least_order else args[2:]
        stuck = caught.exception.stuck
        self.assertIsInstance(stuck, Stuck)
        self.assertIsNone(stuck_fault(book, stuck, *further))
        self.assertEqual(stuck.days, lift(book, *further).days)

    def test_6_1_all_orders(self):
        chance = seeded(61)
        for _ in range(400):
            marks = chance.choice((ONE, TWO))
            book = some_book(chance, marks, 4) if chance.random() < 0.6 else some_kept_book(chance, marks, 5)
            further = [some_saying(chance, marks) for _ in range(chance.choice((0, 0, 1, 3)))]
            least = plain_least(book, *further)
            saying = some_saying(chance, marks)
            if least is None:
                self.no_order(least_order, book, *further)
                self.no_order(expects, book, saying, *further)
            else:
                self.assertEqual(least_order(book, *further), Order(least))
                self.assertIs(expects(book, saying, *further), plain_keeps(least, saying))

    def test_6_1_edges(self):
        empty = Book(TWO, [])
        self.assertEqual(least_order(empty), Order.flat(4))
        self.assertIs(expects(empty, Saying(3, 3)), True)
        self.assertIs(expects(empty, Saying(3, 1)), False)
        self.assertIs(expects(empty, Saying(3, 1, False)), True)
        twelve = Book(TWO, [Saying(15, 10)] * 12)
        self.assertEqual(least_order(twelve, *[Saying(15, 10)] * 5).layers, (1, 0, 1, 0))
        chain = Book(FOUR, [Saying.of_days(2 ** day, 2 ** (day + 1)) for day in range(12)])
        self.assertEqual(least_order(chain).layers, tuple(range(13)) + (0, 0, 0))
        self.no_order(least_order, BROKEN)
        self.no_order(expects, BROKEN, Saying(3, 3))
        self.no_order(expects, K, Saying(3, 1), Saying(8, 0))

    def test_6_1_other_days_come_first(self):
        for saying in FOREIGN:
            for book in (K, BROKEN):
                self.refuses(OtherDays(), least_order, book, saying)
                self.refuses(OtherDays(), least_order, book, Saying(3, 1), saying)
                self.refuses(OtherDays(), expects, book, saying)
                self.refuses(OtherDays(), expects, book, saying, Saying(4, 0))
                self.refuses(OtherDays(), expects, book, Saying(3, 1), Saying(3, 1), saying)

    def test_6_2_either_or(self):
        chance = seeded(62)
        for _ in range(200):
            marks = chance.choice((ONE, TWO, THREE, FOUR))
            book = some_kept_book(chance, marks, chance.randint(0, 6))
            for _ in range(5):
                saying = some_saying(chance, marks)
                self.assertNotEqual(expects(book, saying), expects(book, saying.contrary()))
                same = isinstance(lift(book, saying), Stuck) is False and least_order(book, saying) == least_order(book)
                self.assertEqual(same, expects(book, saying))

    def test_6_2_what_is_told_is_expected(self):
        chance = seeded(621)
        sayings = all_sayings(TWO)
        for _ in range(60):
            book = some_kept_book(chance, TWO, 4)
            for saying in chance.sample(sayings, 30):
                if plain_tells(book, saying):
                    self.assertTrue(expects(book, saying))

    def test_6_2_expected_sayings_may_be_added(self):
        chance = seeded(622)
        for _ in range(60):
            book = some_kept_book(chance, TWO, 4)
            expected = [saying for saying in all_sayings(TWO) if expects(book, saying)]
            added = chance.sample(expected, 30)
            self.assertEqual(least_order(book, *added), least_order(book))
            self.assertTrue(all(expects(book, saying, *added) for saying in expected))

    def test_6_2_told_is_expected_with_every_other(self):
        chance = seeded(623)
        found = set()
        for marks, many in ((ONE, 30), (TWO, 12)):
            others = all_sayings(marks)
            for _ in range(many):
                book = some_kept_book(chance, marks, 3)
                for saying in chance.sample(others, min(5, len(others))):
                    answers = []
                    for other in others:
                        if not isinstance(lift(book, other), Stuck):
                            answers.append(expects(book, saying, other))
                    told = plain_tells(book, saying)
                    found.add(told)
                    self.assertEqual(all(answers), told)
        self.assertEqual(found, {True, False})

    def test_6_2_what_is_expected_may_be_lost(self):
        self.assertTrue(expects(K, Saying(9, 8)))
        self.assertTrue(expects(Book(TWO, []), Saying(3, 1, False)))
        self.assertFalse(expects(Book(TWO, []), Saying(3, 1, False), Saying(3, 1)))

    def test_example_of_part_6(self):
        s = Saying(5, 4)
        self.assertEqual((least_order(K).layers, expects(K, s), expects(K, s.contrary())), ((1, 1, 1, 0), False, True))
