"""Doubts and bounds: points 5.3 and 5.4, and what 0.3 says of doubts."""

from fractions import Fraction

from tests.helpers import (FOUR, ONE, STRANGE, THREE, TWO, Case, as_ratio, mixed_books, plain_doubt, plain_yields,
                           seeded, some_book, some_saying)
from usualdays.books import Book
from usualdays.doubts import check_bounds, doubt_of, doubt_sum, doubts_of, first_excess
from usualdays.errors import BadBounds, NeedNot, OtherDays
from usualdays.sayings import Saying
from usualdays.weights import Weights

B = Book(TWO, [Saying(15, 10), Saying(10, 12)])
NEED_NOT = Book(TWO, [Saying(3, 1), Saying(3, 1, False), Saying(5, 1, False)])
EVEN = Weights([1] * 4)
# All things that are no bound.
NO_BOUNDS = STRANGE + ((), (1,), (1, 2, 3), (2, 1), (-1, 2), (0, 0), (1, 0), (0, -1), (1, -2), (True, 2), (1, True),
                       (1, None), ("1", 2), (1, 2.0), (1, 1000001), (0, 1000001), "12", {0: 1, 1: 2},
                       (1000001, 1000001))


def some_weights(chance, days, least=0):
    numbers = [chance.choice((least, least, 1, 2, 3, 10 ** chance.randint(0, 100))) for _ in range(days)]
    numbers[chance.randrange(days)] = 1
    return Weights(numbers)


class Doubts(Case):
    def test_5_3_doubts(self):
        chance = seeded(53)
        for marks in (ONE, TWO, THREE, FOUR):
            for _ in range(150):
                weights = some_weights(chance, marks.days)
                saying = some_saying(chance, marks, usual=True)
                doubt = doubt_of(weights, saying)
                self.assertIs(type(doubt), tuple)
                self.assertEqual(doubt, as_ratio(plain_doubt(weights.numbers, saying)))
                book = some_book(chance, marks, 12, usual=True)
                doubts = [plain_doubt(weights.numbers, own) for own in book]
                self.assertEqual(doubts_of(weights, book), tuple(as_ratio(doubt) for doubt in doubts))
                self.assertEqual(doubt_sum(weights, book), as_ratio(sum(doubts)))

    def test_5_3_edges(self):
        weights = Weights([0, 2, 0, 6])
        for saying, doubt in ((Saying(5, 1), (0, 1)), (Saying(5, 0), (0, 1)), (Saying(10, 8), (1, 4)),
                              (Saying(10, 0), (1, 1)), (Saying(10, 15), (0, 1)), (Saying(15, 9), (1, 4)),
                              (Saying(3, 1), (1, 1))):
            self.assertEqual(doubt_of(weights, saying), doubt)
        self.assertEqual(doubts_of(weights, Book(TWO, [])), ())
        self.assertEqual(doubt_sum(weights, Book(TWO, [])), (0, 1))
        self.assertEqual(doubt_sum(weights, Book(TWO, [Saying(10, 0)] * 12)), (12, 1))

    def test_5_3_errors_of_a_saying(self):
        for saying in (Saying(16, 1), Saying(1, 16), Saying(65535, 3, False)):
            self.refuses(OtherDays(), doubt_of, EVEN, saying)
        self.refuses(OtherDays(), doubt_of, Weights([1, 1]), Saying(4, 0, False))
        self.refuses(NeedNot(None), doubt_of, EVEN, Saying(15, 1, False))
        self.refuses(NeedNot(None), doubt_of, Weights([1, 0]), Saying(2, 2, False))

    def test_5_3_errors_of_a_book(self):
        for ask in (doubts_of, doubt_sum):
            for days in (2, 8, 16):
                self.refuses(OtherDays(), ask, Weights([1] * days), B)
                self.refuses(OtherDays(), ask, Weights([1] * days), NEED_NOT)
                self.refuses(OtherDays(), ask, Weights([1] * days), Book(TWO, []))
            self.refuses(NeedNot(1), ask, EVEN, NEED_NOT)

    def test_0_3_what_a_book_yields_is_no_more_doubtful_than_the_book(self):
        chance = seeded(33)
        for book, saying in mixed_books(chance, 200):
            if plain_yields(book, saying):
                for _ in range(10):
                    weights = some_weights(chance, book.marks.days).numbers
                    doubts = sum(plain_doubt(weights, own) for own in book)
                    self.assertLessEqual(plain_doubt(weights, saying), doubts)


class Bounds(Case):
    def test_5_4_check_bounds(self):
        for bounds in ([(1, 10), (1, 5)], ((2, 20), [2, 10])):
            known = check_bounds(B, bounds)
            self.assertEqual(known, ((1, 10), (1, 5)))
            self.assertTrue(all(type(thing) is tuple for thing in (known,) + known))
        self.assertEqual(check_bounds(B, [[0, 1000000], (1000000, 1000000)]), ((0, 1), (1, 1)))
        self.assertEqual(check_bounds(B, [(999999, 1000000), (0, 1)]), ((999999, 1000000), (0, 1)))
        self.assertEqual(check_bounds(Book(TWO, []), []), ())
        self.assertEqual(check_bounds(Book(TWO, [Saying(3, 1)] * 12), ((4, 6),) * 12), ((2, 3),) * 12)

    def test_5_4_first_excess(self):
        weights = Weights([1, 2, 0, 3])
        for bounds, number in (([(1, 6), (2, 5)], None), ([(4, 24), (40, 100)], None), ([(1, 7), (2, 5)], 0),
                               ([(1, 6), (39, 100)], 1), ([(0, 1), (0, 1)], 0), ([(1, 1), (1, 1)], None),
                               ([(1, 7), (1, 7)], 0), ([(166666, 1000000), (1, 1)], 0),
                               ([(166667, 1000000), (1, 1)], None)):
            self.assertEqual(first_excess(weights, B, bounds), number)
        self.assertIsNone(first_excess(weights, Book(TWO, []), ()))
        self.assertIsNone(first_excess(Weights([0, 0, 1, 0]), Book(TWO, [Saying(3, 0)]), [(0, 5)]))

    def test_5_4_first_excess_of_some_books(self):
        chance = seeded(54)
        found = set()
        for _ in range(400):
            marks = chance.choice((ONE, TWO, THREE, FOUR))
            book = some_book(chance, marks, 6, usual=True)
            weights = some_weights(chance, marks.days)
            bounds = [(chance.randint(0, 6), 6) for _ in book]
            above = [number for number, saying in enumerate(book)
                     if plain_doubt(weights.numbers, saying) > Fraction(*bounds[number])]
            found.add(above[0] if above else None)
            self.assertEqual(first_excess(weights, book, bounds), above[0] if above else None)
        self.assertLessEqual({None, 0, 1, 2}, found)

    def test_5_4_count(self):
        for ask in (check_bounds, lambda book, bounds: first_excess(EVEN, book, bounds)):
            for thing in STRANGE + ([], [(1, 2)], [(1, 2)] * 3, "12", {0: (1, 2), 1: (1, 2)}, [None]):
                self.refuses(BadBounds("count", None), ask, B, thing)

    def test_5_4_bound(self):
        for ask in (check_bounds, lambda book, bounds: first_excess(EVEN, book, bounds)):
            for thing in NO_BOUNDS:
                self.refuses(BadBounds("bound", 0), ask, B, [thing, (1, 2)])
                self.refuses(BadBounds("bound", 1), ask, B, ((1, 2), thing))
                self.refuses(BadBounds("bound", 0), ask, B, [thing, None])

    def test_5_4_order_of_the_errors(self):
        self.refuses(OtherDays(), first_excess, Weights([1, 1]), NEED_NOT, None)
        self.refuses(NeedNot(1), first_excess, EVEN, NEED_NOT, None)
        self.refuses(NeedNot(1), check_bounds, NEED_NOT, None)
        self.refuses(NeedNot(1), check_bounds, NEED_NOT, [(1, 0)] * 3)
        self.refuses(OtherDays(), first_excess, Weights([1] * 8), B, [(1, 2), (1, 2)])
