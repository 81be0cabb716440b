"""Sums of doubts: point 5.16, and what 0.3 says of them."""

from fractions import Fraction

from tests.helpers import FOUR, ONE, STRANGE, TWO, Case, is_sharp, mixed_books, plain_doubt, plain_yields, seeded
from usualdays.books import Book
from usualdays.errors import BadStep, NeedNot, OtherDays
from usualdays.sayings import Saying
from usualdays.sums import Bounded, Exceeds, sum_bound, sum_fault
from usualdays.weights import Weights

B = Book(TWO, [Saying(15, 10), Saying(10, 12)])
NEED_NOT = Book(TWO, [Saying(3, 1), Saying(3, 1, False), Saying(5, 1, False)])


def plain_word(book, saying, answer):
    if isinstance(answer, Bounded):
        if any(type(number) is not int or number not in range(len(book)) for number in answer.lot):
            return "lot"
        if list(answer.lot) != sorted(set(answer.lot)):
            return "lot"
        return None if is_sharp(book, answer.lot, saying) else "sharp"
    numbers = answer.weights.numbers
    if len(numbers) != book.marks.days:
        return "count"
    return None if plain_doubt(numbers, saying) > sum(plain_doubt(numbers, own) for own in book) else "sum"


class Sums(Case):
    def answered(self, book, saying, parts=2):
        answer = sum_bound(book, saying, parts=parts)
        self.assertIsNone(sum_fault(book, saying, answer))
        self.assertIsNone(plain_word(book, saying, answer))
        if isinstance(answer, Bounded):
            self.assertIs(type(answer.lot), tuple)
            return answer
        self.assertIsInstance(answer.weights, Weights)
        numbers = answer.weights.numbers
        self.assertGreaterEqual(plain_doubt(numbers, saying), Fraction(parts - 1, parts))
        for own in book:
            self.assertLessEqual(plain_doubt(numbers, own), Fraction(1, parts))
        return answer

    def test_5_16_exactly_what_the_book_yields(self):
        chance = seeded(516)
        kinds = {Bounded: 0, Exceeds: 0}
        for book, saying in mixed_books(chance, 500):
            answer = self.answered(book, saying, chance.choice((1, 2, 3, 13, 1000000)))
            kinds[type(answer)] += 1
            self.assertEqual(isinstance(answer, Bounded), plain_yields(book, saying))
            if isinstance(answer, Bounded):
                for _ in range(5):
                    numbers = [chance.choice((0, 1, 2, 10 ** 50)) for _ in range(book.marks.days)]
                    doubts = sum(plain_doubt(numbers, book[number]) for number in answer.lot)
                    self.assertLessEqual(plain_doubt(numbers, saying), doubts)
        self.assertLess(100, min(kinds.values()))

    def test_5_16_twelve_sayings(self):
        chain = Book(FOUR, [Saying.of_days(2 ** (day + 1), 2 ** day) for day in range(12)])
        self.assertIsInstance(self.answered(chain, Saying.of_days(2 ** 12, 1)), Bounded)
        self.assertIsInstance(self.answered(chain, Saying.of_days(2 ** 11, 1)), Bounded)
        self.assertIsInstance(self.answered(chain, Saying.of_days(2 ** 12, 4095)), Bounded)
        for parts in (1, 2, 12, 13, 14, 1000000):
            self.assertIsInstance(self.answered(chain, Saying.of_days(1, 2 ** 12), parts), Exceeds)
            self.assertIsInstance(self.answered(chain, Saying.of_days(2 ** 5, 2 ** 9), parts), Exceeds)
        wide = Book(FOUR, [Saying.of_days(2 ** 15, 2 ** day + 2 ** 13) for day in range(12)])
        for parts in (1, 2, 13, 1000000):
            self.assertIsInstance(self.answered(wide, Saying.of_days(0, 4095 + 2 ** 13), parts), Exceeds)
            self.assertIsInstance(self.answered(wide, Saying.of_days(2 ** 15, 4095 + 2 ** 14), parts), Exceeds)

    def test_5_16_all_sayings_that_were_dropped_share_a_day(self):
        # Each of the twelve says "where any, usually day 0"; so the sum of their doubts is near the edge.
        book = Book(FOUR, [Saying(65535, 1)] * 12)
        for parts in (1, 2, 12):
            self.assertIsInstance(self.answered(book, Saying(65534, 0), parts), Exceeds)

    def test_5_16_books_without_sayings_and_books_that_no_order_keeps(self):
        empty = Book(TWO, [])
        self.assertEqual(self.answered(empty, Saying(6, 6)).lot, ())
        self.assertIsInstance(self.answered(empty, Saying(6, 2)), Exceeds)
        broken = Book(TWO, [Saying(4, 0)])
        self.assertEqual(self.answered(broken, Saying(4, 0)).lot, (0,))
        self.assertIsInstance(self.answered(broken, Saying(3, 1)), Exceeds)
        self.assertIsInstance(self.answered(Book(ONE, [Saying(3, 1), Saying(3, 2)]), Saying(3, 0)), Bounded)
        self.assertIsInstance(self.answered(Book(ONE, [Saying(1, 0), Saying(3, 1)]), Saying(3, 0)), Bounded)
        self.assertIsInstance(self.answered(Book(ONE, [Saying(1, 0)]), Saying(3, 1)), Exceeds)

    def test_5_16_parts_are_two_unless_told(self):
        for book, saying in ((B, Saying(3, 1)), (Book(TWO, []), Saying(12, 0))):
            answer = sum_bound(book, saying)
            self.assertIsInstance(answer, Exceeds)
            self.assertTrue(all(plain_doubt(answer.weights.numbers, own) <= Fraction(1, 2) for own in book))

    def test_5_16_errors(self):
        def judge(book, saying, parts=2):
            return sum_fault(book, saying, Bounded(()))

        for ask in (sum_bound, judge):
            for saying in (Saying(16, 1), Saying(1, 16), Saying(65535, 3, False)):
                self.refuses(OtherDays(), ask, B, saying, parts=0)
                self.refuses(OtherDays(), ask, NEED_NOT, saying)
            self.refuses(NeedNot(1), ask, NEED_NOT, Saying(3, 1, False), parts=0)
            self.refuses(NeedNot(None), ask, B, Saying(3, 1, False), parts=None)
        for thing in STRANGE + (0, -1, 1000001, 2.0, "2", (2,)):
            for saying in (Saying(3, 1), Saying(3, 3)):
                self.refuses(BadStep(thing), sum_bound, B, saying, parts=thing)
        self.assertRaises(TypeError, sum_bound, B, Saying(3, 1), 2)

    def test_5_16_judging_bounded(self):
        for lot, word in (((0,), "sharp"), ((1,), "sharp"), ((), "sharp"), ((0, 1), None), ((1, 0), "lot"),
                          ((0, 0), "lot"),
                          ((0, 1, 1), "lot"), ((0, 2), "lot"), ((-1, 0), "lot"), ((True,), "lot"), ((None,), "lot"),
                          ((2,), "lot")):
            self.assertEqual(sum_fault(B, Saying(15, 12), Bounded(lot)), word)
            self.assertEqual(plain_word(B, Saying(15, 12), Bounded(lot)), word)
        # The lot (0,) is sharp, and with saying 1, which confirms day 3, it is not.
        book = Book(TWO, [Saying(3, 1), Saying(8, 8)])
        self.assertIsNone(sum_fault(book, Saying(3, 1), Bounded((0,))))
        self.assertEqual(sum_fault(book, Saying(3, 1), Bounded((0, 1))), "sharp")

    def test_5_16_judging_exceeds(self):
        for numbers, word in (([1, 1], "count"), ([1] * 8, "count"), ([0, 1, 0, 0], "sum"), ([0, 0, 1, 0], "sum"),
                              ([1, 0, 0, 0], "sum"), ([0, 0, 0, 1], "sum"), ([5, 9, 0, 36], "sum")):
            self.assertEqual(sum_fault(B, Saying(15, 12), Exceeds(Weights(numbers))), word)
        self.assertIsNone(sum_fault(B, Saying(3, 1), Exceeds(Weights([0, 1, 0, 10]))))
        self.assertEqual(sum_fault(B, Saying(2, 0), Exceeds(Weights([0, 1, 0, 0]))), "sum")
        self.assertEqual(sum_fault(B, Saying(3, 1), Bounded(())), "sharp")

    def test_5_16_judging_against_the_words_of_the_text(self):
        chance = seeded(5161)
        words = set()
        for book, saying in mixed_books(chance, 1500, most=3):
            if chance.random() < 0.5:
                answer = Bounded(tuple(chance.randint(0, 3) for _ in range(chance.randint(0, 3))))
            else:
                days = chance.choice((2, 4, book.marks.days, book.marks.days))
                answer = Exceeds(Weights([chance.choice((0, 0, 1, 5)) for _ in range(days - 1)] + [1]))
            word = plain_word(book, saying, answer)
            words.add((type(answer).__name__, word))
            self.assertEqual(sum_fault(book, saying, answer), word)
        self.assertEqual(words, {("Bounded", None), ("Bounded", "lot"), ("Bounded", "sharp"), ("Exceeds", None),
                                 ("Exceeds", "count"), ("Exceeds", "sum")})

    def test_0_6_results_keep_their_arguments(self):
        weights = Weights([1, 2])
        self.assertEqual(vars(Bounded((0, 2))), {"lot": (0, 2)})
        self.assertEqual(vars(Exceeds(weights)), {"weights": weights})

    def test_5_16_weights_are_for_the_days_of_the_book(self):
        self.assertEqual(len(sum_bound(Book(FOUR, []), Saying(3, 1)).weights), 16)
