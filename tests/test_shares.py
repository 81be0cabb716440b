"""The greatest share: points 5.14 and 5.15."""

from fractions import Fraction

from tests.helpers import FOUR, ONE, TWO, Case, as_ratio, bits, mixed_books, plain_doubt, seeded, some_book, some_saying
from tests.test_doubts import NEED_NOT, NO_BOUNDS
from tests.test_greatest import B, BOUNDS, SMALL, meets, some_bounds, weight
from usualdays.books import Book
from usualdays.errors import BadBounds, NeedNot, OtherDays
from usualdays.greatest import greatest_doubt
from usualdays.linear import Task
from usualdays.sayings import Saying
from usualdays.shares import GreatestShare, NoWeights, greatest_share, share_fault, share_task
from usualdays.weights import Weights

ASKING = (share_task, greatest_share,
          lambda book, bounds, saying, least: share_fault(book, bounds, saying, least, NoWeights(())))


def plain_row(bound, saying, day):
    top, bottom = as_ratio(Fraction(*bound))
    return bottom - top if day in bits(saying.broken) else -top if day in bits(saying.confirm) else 0


def plain_word(book, bounds, saying, least, answer):
    days = range(book.marks.days)
    y = answer.multipliers
    if len(y) != len(book) + 1 or isinstance(answer, GreatestShare) and len(answer.weights) != len(days):
        return "count"
    if any(top < 0 for top, _ in y):
        return "sign"
    pushed = {}
    for day in days:
        column = [plain_row(bound, own, day) for bound, own in zip(bounds, book)] + [-plain_row(least, saying, day)]
        pushed[day] = sum(entry * Fraction(*part) for entry, part in zip(column, y))
    if isinstance(answer, NoWeights):
        return None if all(1 <= pushed[day] for day in days) else "bar"
    numbers = answer.weights.numbers
    where = weight(numbers, saying.where)
    if not meets(numbers, book, bounds):
        return "bounds"
    if where and plain_doubt(numbers, saying) < Fraction(*least):
        return "least"
    share = Fraction(*answer.share)
    if Fraction(where, sum(numbers)) != share:
        return "share"
    fits = [int(day in bits(saying.where)) <= share + pushed[day] for day in days]
    return None if all(fits) else "bar"


def some_least(chance):
    return chance.choice(((0, 5), (1, 2), (2, 4), [1, 1], (7, 7), (1, 1000000), [999999, 1000000], (3, 10)))


class Tasks(Case):
    def test_5_14_share_task(self):
        task = share_task(B, [(2, 20), [1, 5]], Saying(3, 1), [2, 6])
        rows = ((9, -1, 9, -1), (0, 4, 0, -1), (1, -2, 0, 0))
        self.assertEqual(task, Task((1, 1, 0, 0), (1, 1, 1, 1), rows))
        task = share_task(Book(ONE, []), (), Saying(2, 2), (0, 3))
        self.assertEqual(task, Task((0, 1), (1, 1), ((0, 0),)))
        task = share_task(Book(FOUR, [Saying(1, 0)] * 12), ((1, 1),) * 12, Saying(3, 2), (5, 5))
        self.assertEqual(task.rows, ((0,) * 16,) * 12 + ((0, 1) + (0,) * 14,))

    def test_5_14_errors(self):
        for ask in ASKING:
            for saying in (Saying(16, 1), Saying(1, 16), Saying(65535, 3, False)):
                self.refuses(OtherDays(), ask, B, BOUNDS, saying, (1, 2))
                self.refuses(OtherDays(), ask, NEED_NOT, None, saying, None)
            self.refuses(NeedNot(1), ask, NEED_NOT, None, Saying(3, 1, False), None)
            self.refuses(NeedNot(None), ask, B, None, Saying(3, 1, False), None)
            for thing in (None, [], [(1, 2)], [(1, 2)] * 3, "12"):
                self.refuses(BadBounds("count", None), ask, B, thing, Saying(3, 1), None)
            for thing in NO_BOUNDS:
                self.refuses(BadBounds("bound", 1), ask, B, [(1, 2), thing], Saying(3, 1), None)
                self.refuses(BadBounds("least", None), ask, B, BOUNDS, Saying(3, 1), thing)


class Greatest(Case):
    def answered(self, book, bounds, saying, least):
        answer = greatest_share(book, bounds, saying, least)
        self.assertIsNone(share_fault(book, bounds, saying, least, answer))
        self.assertIsNone(plain_word(book, bounds, saying, least, answer))
        self.assertIs(type(answer.multipliers), tuple)
        self.assertEqual(len(answer.multipliers), len(book) + 1)
        if isinstance(answer, GreatestShare):
            self.assertIsInstance(answer.weights, Weights)
            self.assertEqual(answer.share, as_ratio(Fraction(*answer.share)))
        return answer

    def test_5_14_small_weights(self):
        chance = seeded(514)
        kinds = {GreatestShare: 0, NoWeights: 0}
        for book, saying in mixed_books(chance, 250, most=4):
            if book.marks.days > 4:
                continue
            bounds, least = some_bounds(chance, book), some_least(chance)
            answer = self.answered(book, bounds, saying, least)
            kinds[type(answer)] += 1
            shares = []
            for numbers in SMALL[book.marks.days]:
                where = weight(numbers, saying.where)
                if meets(numbers, book, bounds) and (not where or plain_doubt(numbers, saying) >= Fraction(*least)):
                    shares.append(Fraction(where, sum(numbers)))
            if isinstance(answer, NoWeights):
                self.assertEqual(shares, [])
            else:
                self.assertTrue(all(share <= Fraction(*answer.share) for share in shares))
        self.assertLess(10, min(kinds.values()))

    def test_5_14_more_marks_by_the_judge(self):
        chance = seeded(5141)
        for _ in range(80):
            book = Book(FOUR, list(some_book(chance, FOUR, 12, usual=True)))
            self.answered(book, some_bounds(chance, book), some_saying(chance, FOUR, usual=True), some_least(chance))
        for _ in range(20):
            book = Book(FOUR, [some_saying(chance, FOUR, usual=True) for _ in range(12)])
            self.answered(book, some_bounds(chance, book, 1), some_saying(chance, FOUR, usual=True), some_least(chance))

    def test_5_14_edges(self):
        empty = Book(TWO, [])
        self.assertEqual(self.answered(empty, [], Saying(3, 1), (1, 2)).share, (1, 1))
        self.assertEqual(self.answered(empty, [], Saying(3, 3), (1, 1000000)).share, (0, 1))
        self.assertEqual(self.answered(empty, [], Saying(3, 3), (0, 1)).share, (1, 1))
        self.assertEqual(self.answered(empty, [], Saying(3, 0), (1, 1)).share, (1, 1))
        self.assertIsInstance(self.answered(empty, [], Saying(15, 15), (1, 2)), NoWeights)
        self.assertIsInstance(self.answered(Book(ONE, [Saying(3, 0)]), [(1, 2)], Saying(1, 1), (0, 1)), NoWeights)
        # Where all but a tenth is in the days 1 and 3, and of these a tenth at most in day 1.
        book = Book(TWO, [Saying(15, 10), Saying(10, 8)])
        self.assertEqual(self.answered(book, [(1, 10), (1, 10)], Saying(10, 8), (1, 10)).share, (1, 1))
        self.assertEqual(self.answered(book, [(1, 10), (1, 10)], Saying(5, 4), (1, 2)).share, (1, 10))
        self.assertEqual(self.answered(book, [(1, 10), (1, 10)], Saying(15, 8), (19, 100)).share, (1, 1))
        self.assertIsInstance(self.answered(book, [(1, 10), (1, 10)], Saying(15, 8), (1, 5)), NoWeights)
        self.assertEqual(self.answered(book, [(1, 10), (1, 10)], Saying(3, 1), (1, 2)).share, (2, 11))
        self.assertIsInstance(self.answered(book, [(1, 10), (1, 10)], Saying(14, 8), (1, 2)), NoWeights)

    def test_5_14_doubts_that_are_reached_and_others(self):
        chance = seeded(5142)
        for book, saying in mixed_books(chance, 120):
            bounds = some_bounds(chance, book)
            doubt = getattr(greatest_doubt(book, bounds, saying), "doubt", None)
            if doubt is None or doubt[1] > 1000000:
                continue
            self.assertGreater(self.answered(book, bounds, saying, doubt).share, (0, 1))
            if Fraction(*doubt) < Fraction(9, 10):
                more = as_ratio(Fraction(9, 10))
                answer = self.answered(book, bounds, saying, more)
                self.assertTrue(isinstance(answer, NoWeights) or answer.share == (0, 1))

    def test_0_6_results_keep_their_arguments(self):
        weights = Weights([1, 2])
        self.assertEqual(vars(GreatestShare((1, 2), weights, ((0, 1),))), {
            "share": (1, 2), "weights": weights, "multipliers": ((0, 1),)})
        self.assertEqual(vars(NoWeights(((0, 1),))), {"multipliers": ((0, 1),)})


class Judging(Case):
    book = Book(TWO, [Saying(15, 10), Saying(10, 8)])
    bounds = [(1, 10), (1, 10)]

    def judged(self, word, share, numbers, multipliers, saying=Saying(3, 1), least=(1, 2)):
        answer = GreatestShare(share, Weights(numbers), multipliers)
        self.assertEqual(plain_word(self.book, self.bounds, saying, least, answer), word)
        self.assertEqual(share_fault(self.book, self.bounds, saying, least, answer), word)

    def test_5_15_each_word(self):
        y = greatest_share(self.book, self.bounds, Saying(3, 1), (1, 2)).multipliers
        self.judged(None, (2, 11), [1, 1, 0, 9], y)
        self.judged(None, (2, 11), [10 ** 90, 10 ** 90, 0, 9 * 10 ** 90], y)
        for multipliers in ((), y[:2], y + ((0, 1),), ((-1, 1),)):
            self.judged("count", (2, 11), [1, 0, 0, 0], multipliers)
        for wrong in ([1, 1], [1] * 8):
            self.judged("count", (2, 11), wrong, y)
        self.judged("sign", (2, 11), [1, 0, 0, 0], ((-1, 9),) + y[1:])
        self.judged("sign", (2, 11), [1, 0, 0, 0], y[:2] + ((-1, 9),))
        for wrong in ([1, 0, 0, 0], [1, 0, 0, 8], [0, 1, 0, 8]):
            self.judged("bounds", (2, 11), wrong, y)
        for wrong in ([1, 0, 0, 9], [2, 1, 0, 18]):
            self.judged("least", (0, 1), wrong, y)
        for share in ((0, 1), (1, 1), (1, 5), (-2, 11)):
            self.judged("share", share, [1, 1, 0, 9], ((0, 1),) * 3)
        for multipliers in (((0, 1),) * 3, y[:2] + ((0, 1),), (y[0], (0, 1), y[2])):
            self.judged("bar", (2, 11), [1, 1, 0, 9], multipliers)

    def test_5_15_where_that_weighs_0_has_no_doubt(self):
        self.judged("bar", (0, 1), [0, 1, 0, 9], ((0, 1),) * 3, Saying(1, 1), (1, 1))
        self.judged(None, (0, 1), [0, 1, 0, 9], ((0, 1), (0, 1), (1, 1)), Saying(1, 1), (1, 1))
        self.judged("least", (1, 10), [1, 0, 0, 9], ((0, 1),) * 3, Saying(1, 1), (1, 10))

    def test_5_15_no_weights(self):
        book, bounds = Book(ONE, [Saying(3, 0)]), [(1, 2)]
        for multipliers, word in ((((1, 1), (0, 1)), None), (((5, 1), (1, 3)), None), ((), "count"),
                                  (((-1, 1),), "count"),
                                  (((1, 1), (0, 1), (0, 1)), "count"), (((1, 1), (-1, 9)), "sign"),
                                  (((-1, 1), (1, 9)), "sign"),
                                  (((99, 100), (0, 1)), "bar"), (((0, 1), (9, 1)), "bar")):
            answer = NoWeights(multipliers)
            self.assertEqual(share_fault(book, bounds, Saying(1, 1), (0, 1), answer), word)
            self.assertEqual(plain_word(book, bounds, Saying(1, 1), (0, 1), answer), word)

    def test_5_15_against_the_words_of_the_text(self):
        chance = seeded(515)
        words = set()
        for book, saying in mixed_books(chance, 700, most=3):
            bounds, least = some_bounds(chance, book), some_least(chance)
            answer = greatest_share(book, bounds, saying, least)
            for _ in range(3):
                wrong = self.changed(chance, answer)
                word = plain_word(book, bounds, saying, least, wrong)
                words.add((type(answer).__name__, word))
                self.assertEqual(share_fault(book, bounds, saying, least, wrong), word)
        self.assertEqual(words, {("NoWeights", word) for word in (None, "count", "sign", "bar")} | {
            ("GreatestShare", word) for word in (None, "count", "sign", "bounds", "least", "share", "bar")})

    def changed(self, chance, answer):
        multipliers = list(answer.multipliers)
        what = chance.randrange(6)
        if what == 0:
            multipliers.pop()
        elif what == 1:
            multipliers[chance.randrange(len(multipliers))] = as_ratio(Fraction(chance.randint(-2, 6), 4))
        if isinstance(answer, NoWeights):
            return NoWeights(tuple(multipliers))
        numbers, share = list(answer.weights.numbers), answer.share
        if what == 2:
            numbers = [chance.choice((0, 0, 1, 2)) for _ in numbers[:-1]] + [1]
        elif what == 3:
            numbers = (numbers + numbers)[:16]
        elif what == 4:
            share = as_ratio(Fraction(*share) + Fraction(chance.randint(-1, 1), 7))
        return GreatestShare(share, Weights(numbers), tuple(multipliers))
