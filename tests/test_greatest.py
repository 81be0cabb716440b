"""The greatest doubt: points 5.10 to 5.13."""

import itertools
from fractions import Fraction

from tests.helpers import (FOUR, ONE, THREE, TWO, Case, as_ratio, bits, is_sharp, mixed_books, plain_doubt,
                           plain_joined, plain_yields, seeded, some_book, some_saying)
from tests.test_doubts import NEED_NOT, NO_BOUNDS
from usualdays.books import Book
from usualdays.errors import BadBounds, NeedNot, OtherDays
from usualdays.greatest import (GreatestDoubt, Weightless, doubt_range, doubt_task, greatest_doubt, greatest_fault,
                                lot_of)
from usualdays.lifting import lifted_layers
from usualdays.linear import Task
from usualdays.sayings import Saying
from usualdays.weights import Weights

B = Book(TWO, [Saying(15, 10), Saying(10, 12)])
BOUNDS = [(1, 10), (1, 5)]
ASKING = (doubt_task, greatest_doubt, doubt_range,
          lambda book, bounds, saying: greatest_fault(book, bounds, saying, Weightless(())))
# All weights of four days from 0 to 4, and of two days from 0 to 12.
SMALL = {2: [numbers for numbers in itertools.product(range(13), repeat=2) if any(numbers)],
         4: [numbers for numbers in itertools.product(range(5), repeat=4) if any(numbers)]}


def some_bounds(chance, book, least=0):
    bounds = []
    for _ in book:
        bottom = chance.choice((1, 2, 3, 4, 10, 100, 999999, 1000000))
        bounds.append((max(least, chance.choice((0, 1, bottom // 4, bottom // 2, bottom, chance.randint(0, bottom)))),
                       bottom))
    return [(min(top, bottom), bottom) for top, bottom in bounds]


def meets(numbers, book, bounds):
    return all(plain_doubt(numbers, saying) <= Fraction(*bound) for saying, bound in zip(book, bounds))


def weight(numbers, day_set):
    return sum(numbers[day] for day in bits(day_set))


def plain_bar(book, bounds, saying, share, multipliers, day, goal, unit):
    """Whether the inequality holds on a day, by the words of the points 5.8 and 5.10."""
    most = share * unit
    for own, bound, part in zip(book, bounds, multipliers):
        top, bottom = as_ratio(Fraction(*bound))
        entry = bottom - top if day in bits(own.broken) else -top if day in bits(own.confirm) else 0
        most += entry * Fraction(*part)
    return goal <= most


def plain_word(book, bounds, saying, answer):
    days = range(book.marks.days)
    y = answer.multipliers
    if len(y) != len(book) or isinstance(answer, GreatestDoubt) and len(answer.weights) != len(days):
        return "count"
    if any(top < 0 for top, _ in y):
        return "sign"
    if isinstance(answer, Weightless):
        fits = [plain_bar(book, bounds, saying, 0, y, day, int(day in bits(saying.where)), 0) for day in days]
        return None if all(fits) else "bar"
    numbers = answer.weights.numbers
    if weight(numbers, saying.where) == 0:
        return "where"
    if not meets(numbers, book, bounds):
        return "bounds"
    doubt = Fraction(*answer.doubt)
    if plain_doubt(numbers, saying) != doubt:
        return "doubt"
    fits = [plain_bar(book, bounds, saying, doubt, y, day, int(day in bits(saying.broken)),
                      int(day in bits(saying.where)))
            for day in days]
    return None if all(fits) else "bar"


class Tasks(Case):
    def test_5_10_doubt_task(self):
        task = doubt_task(B, [(2, 20), [1, 5]], Saying(3, 1))
        self.assertEqual(task, Task((0, 1, 0, 0), (1, 1, 0, 0), ((9, -1, 9, -1), (0, 4, 0, -1))))
        task = doubt_task(B, ((0, 7), (7, 7)), Saying(14, 0))
        self.assertEqual(task, Task((0, 1, 1, 1), (0, 1, 1, 1), ((1, 0, 1, 0), (0, 0, 0, -1))))
        task = doubt_task(Book(FOUR, []), (), Saying(65535, 65535))
        self.assertEqual(task, Task((0,) * 16, (1,) * 16, ()))
        task = doubt_task(Book(ONE, [Saying(3, 1)] * 12), ((3, 4),) * 12, Saying(1, 0))
        self.assertEqual(task, Task((1, 0), (1, 0), ((-3, 1),) * 12))

    def test_5_10_errors(self):
        for ask in ASKING:
            for saying in (Saying(16, 1), Saying(1, 16), Saying(65535, 3, False)):
                self.refuses(OtherDays(), ask, B, BOUNDS, saying)
                self.refuses(OtherDays(), ask, NEED_NOT, None, saying)
            self.refuses(NeedNot(1), ask, NEED_NOT, None, Saying(3, 1, False))
            self.refuses(NeedNot(None), ask, B, None, Saying(3, 1, False))
            for thing in (None, [], [(1, 2)], [(1, 2)] * 3, "12"):
                self.refuses(BadBounds("count", None), ask, B, thing, Saying(3, 1))
            for thing in NO_BOUNDS:
                self.refuses(BadBounds("bound", 0), ask, B, [thing, thing], Saying(3, 1))
                self.refuses(BadBounds("bound", 1), ask, B, [(1, 2), thing], Saying(3, 1))


class Greatest(Case):
    def answered(self, book, bounds, saying):
        answer = greatest_doubt(book, bounds, saying)
        self.assertIsNone(greatest_fault(book, bounds, saying, answer))
        self.assertIsNone(plain_word(book, bounds, saying, answer))
        self.assertIs(type(answer.multipliers), tuple)
        if isinstance(answer, GreatestDoubt):
            self.assertIsInstance(answer.weights, Weights)
            self.assertEqual(answer.doubt, as_ratio(Fraction(*answer.doubt)))
        return answer

    def test_5_10_small_weights(self):
        chance = seeded(510)
        kinds = {GreatestDoubt: 0, Weightless: 0}
        for book, saying in mixed_books(chance, 250, most=3):
            if book.marks.days > 4:
                continue
            bounds = some_bounds(chance, book)
            answer = self.answered(book, bounds, saying)
            least_and_greatest = doubt_range(book, bounds, saying)
            kinds[type(answer)] += 1
            doubts = [plain_doubt(numbers, saying) for numbers in SMALL[book.marks.days]
                      if weight(numbers, saying.where) and meets(numbers, book, bounds)]
            if isinstance(answer, Weightless):
                self.assertEqual(doubts, [])
                self.assertIsNone(least_and_greatest)
                continue
            self.assertIs(type(least_and_greatest), tuple)
            least, greatest = least_and_greatest
            self.assertEqual(greatest, answer.doubt)
            for doubt in doubts:
                self.assertTrue(Fraction(*least) <= doubt <= Fraction(*greatest))
        self.assertLess(20, min(kinds.values()))

    def test_5_10_the_range_is_reached(self):
        chance = seeded(5101)
        found = set()
        for book, saying in mixed_books(chance, 400):
            bounds = some_bounds(chance, book)
            reached = doubt_range(book, bounds, saying)
            trust = self.answered(book, bounds, saying.flipped())
            if reached is None:
                self.assertIsInstance(trust, Weightless)
                continue
            # Under the weights that trust the saying least of all reversed, its doubt is least.
            self.assertEqual(as_ratio(plain_doubt(trust.weights.numbers, saying)), reached[0])
            self.assertEqual(reached[1], greatest_doubt(book, bounds, saying).doubt)
            found.add(reached)
        self.assertLess(20, len(found))
        self.assertEqual(doubt_range(B, BOUNDS, Saying(15, 12)), ((0, 1), (7, 25)))
        self.assertEqual(doubt_range(B, [(1, 2), (0, 1)], Saying(15, 10)), ((0, 1), (1, 2)))
        self.assertEqual(doubt_range(B, [(1, 3), (0, 1)], Saying(15, 5)), ((2, 3), (1, 1)))

    def test_5_10_more_marks_by_the_judge(self):
        chance = seeded(5102)
        for marks in (THREE, FOUR):
            for _ in range(60):
                book = some_book(chance, marks, 12, usual=True)
                self.answered(book, some_bounds(chance, book), some_saying(chance, marks, usual=True))
        for _ in range(30):
            book = Book(FOUR, [some_saying(chance, FOUR, usual=True) for _ in range(12)])
            self.answered(book, some_bounds(chance, book, 1), some_saying(chance, FOUR, usual=True))

    def test_5_10_edges(self):
        empty = Book(TWO, [])
        self.assertEqual(self.answered(empty, [], Saying(3, 1)).doubt, (1, 1))
        self.assertEqual(self.answered(empty, (), Saying(3, 3)).doubt, (0, 1))
        self.assertEqual(self.answered(empty, (), Saying(3, 0)).doubt, (1, 1))
        self.assertEqual(doubt_range(empty, (), Saying(3, 1)), ((0, 1), (1, 1)))
        self.assertEqual(doubt_range(empty, (), Saying(3, 0)), ((1, 1), (1, 1)))
        self.assertEqual(self.answered(B, [(0, 1), (0, 9)], Saying(15, 8)).doubt, (0, 1))
        self.assertEqual(self.answered(B, [(1, 1), (1, 1)], Saying(15, 8)).doubt, (1, 1))
        self.assertEqual(self.answered(B, [(2, 20), (200, 1000)], Saying(15, 12)).doubt, (7, 25))
        never = Book(TWO, [Saying(12, 0)])
        self.assertIsInstance(self.answered(never, [(1, 2)], Saying(12, 4)), Weightless)
        self.assertIsInstance(self.answered(never, [(0, 1)], Saying(8, 8)), Weightless)
        self.assertEqual(self.answered(never, [(1, 1)], Saying(12, 4)).doubt, (1, 1))
        self.assertEqual(self.answered(never, [(1, 2)], Saying(13, 1)).doubt, (0, 1))
        self.assertEqual(self.answered(never, [(1, 2)], Saying(13, 4)).doubt, (1, 1))
        self.assertIsNone(doubt_range(never, [(1, 2)], Saying(4, 4)))
        twelve = Book(TWO, [Saying(15, 10)] * 12)
        self.assertEqual(self.answered(twelve, [(1, 1)] * 11 + [(1, 10)], Saying(15, 10)).doubt, (1, 10))
        chain = Book(FOUR, [Saying(2 ** day + 2 ** (day + 1), 2 ** (day + 1)) for day in range(12)])
        doubt = self.answered(chain, [(1, 1000000)] * 12, Saying(1 + 2 ** 12, 2 ** 12)).doubt
        self.assertEqual(doubt, as_ratio(Fraction(1, 999999 ** 12 + 1)))

    def test_5_10_multipliers_bound_all_weights(self):
        chance = seeded(5103)
        for book, saying in mixed_books(chance, 60):
            bounds = some_bounds(chance, book)
            answer = greatest_doubt(book, bounds, saying)
            if isinstance(answer, Weightless):
                continue
            for _ in range(5):
                numbers = [chance.choice((0, 1, 2, 1000)) for _ in range(book.marks.days)]
                left = weight(numbers, saying.broken) - Fraction(*answer.doubt) * weight(numbers, saying.where)
                right = Fraction(0)
                for own, bound, part in zip(book, bounds, answer.multipliers):
                    top, bottom = as_ratio(Fraction(*bound))
                    row = bottom * weight(numbers, own.broken) - top * weight(numbers, own.where)
                    right += Fraction(*part) * row
                self.assertLessEqual(left, right)

    def test_example_of_part_5(self):
        found = greatest_doubt(B, [(1, 10), (1, 5)], Saying(15, 12))
        self.assertEqual((found.doubt, found.weights.lowest().numbers, found.multipliers, lot_of(found)),
                         ((7, 25), (5, 9, 0, 36), ((2, 25), (1, 5)), (0, 1)))

    def test_0_6_results_keep_their_arguments(self):
        weights = Weights([1, 2])
        self.assertEqual(vars(GreatestDoubt((1, 2), weights, ((0, 1),))), {
            "doubt": (1, 2), "weights": weights, "multipliers": ((0, 1),)})
        self.assertEqual(vars(Weightless(((0, 1),))), {"multipliers": ((0, 1),)})


class Judging(Case):
    def judged(self, word, doubt, numbers, multipliers, book=B, bounds=BOUNDS, saying=Saying(15, 12)):
        answer = GreatestDoubt(doubt, Weights(numbers), multipliers)
        self.assertEqual(plain_word(book, bounds, saying, answer), word)
        self.assertEqual(greatest_fault(book, bounds, saying, answer), word)

    def test_5_11_right(self):
        self.judged(None, (7, 25), [5, 9, 0, 36], ((2, 25), (1, 5)))
        self.judged(None, (7, 25), [5 * 10 ** 99, 9 * 10 ** 99, 0, 36 * 10 ** 99], ((2, 25), (1, 5)))

    def test_5_11_each_word(self):
        good = ((2, 25), (1, 5))
        for numbers in ([5, 9], [5, 9, 0, 36, 0, 0, 0, 0]):
            self.judged("count", (7, 25), numbers, good)
        for multipliers in ((), good[:1], good + ((0, 1),), ((-1, 1),)):
            self.judged("count", (7, 25), [0, 0, 1, 0], multipliers)
        for multipliers in (((-2, 25), (1, 5)), ((2, 25), (-1, 10 ** 50))):
            self.judged("sign", (7, 25), [0, 0, 1, 0], multipliers)
        self.judged("where", (0, 1), [0, 0, 1, 0], good, saying=Saying(3, 1))
        self.judged("where", (1, 1), [0, 0, 1, 0], good, saying=Saying(11, 1))
        for numbers in ([0, 0, 1, 0], [6, 9, 0, 36], [5, 10, 0, 36], [1, 0, 0, 8]):
            self.judged("bounds", (0, 1), numbers, good)
        for doubt in ((0, 1), (1, 1), (8, 25), (-7, 25), (27999, 100000)):
            self.judged("doubt", doubt, [5, 9, 0, 36], ((0, 1), (0, 1)))
        for multipliers in (((0, 1), (0, 1)), ((2, 25), (1, 6)), ((1, 25), (1, 5)), ((3, 25), (1, 5)),
                            ((2, 25), (1, 4))):
            self.judged("bar", (7, 25), [5, 9, 0, 36], multipliers)
        self.judged("bar", (0, 1), [0, 0, 0, 1], good)

    def test_5_11_weightless(self):
        book = Book(TWO, [Saying(12, 0), Saying(3, 3)])
        for multipliers, word in ((((1, 1), (0, 1)), None), (((2, 1), (0, 1)), None), (((1, 1), (1, 9)), None),
                                  ((), "count"),
                                  (((-1, 1),), "count"), (((1, 1), (0, 1), (0, 1)), "count"),
                                  (((1, 2), (-1, 9)), "sign"),
                                  (((0, 1), (0, 1)), "bar"), (((99, 100), (0, 1)), "bar")):
            answer = Weightless(multipliers)
            self.assertEqual(greatest_fault(book, [(1, 2), (0, 1)], Saying(4, 4), answer), word)
            self.assertEqual(plain_word(book, [(1, 2), (0, 1)], Saying(4, 4), answer), word)
        self.assertEqual(greatest_fault(B, BOUNDS, Saying(15, 12), Weightless(((2, 25), (1, 5)))), "bar")

    def test_5_11_against_the_words_of_the_text(self):
        chance = seeded(511)
        words = set()
        for book, saying in mixed_books(chance, 800, most=3):
            bounds = some_bounds(chance, book)
            answer = greatest_doubt(book, bounds, saying)
            for _ in range(3):
                wrong = self.changed(chance, answer)
                word = plain_word(book, bounds, saying, wrong)
                words.add((type(answer).__name__, word))
                self.assertEqual(greatest_fault(book, bounds, saying, wrong), word)
        self.assertEqual(words, {("Weightless", word) for word in (None, "count", "sign", "bar")} | {
            ("GreatestDoubt", word) for word in (None, "count", "sign", "where", "bounds", "doubt", "bar")})

    def changed(self, chance, answer):
        multipliers = list(answer.multipliers)
        what = chance.randrange(6)
        if what == 0:
            multipliers.append((1, 1))
        elif what == 1 and multipliers:
            multipliers[chance.randrange(len(multipliers))] = as_ratio(Fraction(chance.randint(-2, 6), 4))
        if isinstance(answer, Weightless):
            return Weightless(tuple(multipliers))
        numbers, doubt = list(answer.weights.numbers), answer.doubt
        if what == 2:
            numbers = [chance.choice((0, 0, 1, 2)) for _ in numbers[:-1]] + [1]
        elif what == 3:
            numbers = numbers + numbers
        elif what == 4:
            doubt = as_ratio(Fraction(*doubt) + Fraction(chance.randint(-1, 1), 7))
        return GreatestDoubt(doubt, Weights(numbers if len(numbers) <= 16 else numbers[:16]), tuple(multipliers))


class Lots(Case):
    def test_5_12_lot_of(self):
        self.assertEqual(lot_of(Weightless(((0, 1), (1, 10 ** 50), (-1, 2), (3, 1)))), (1, 3))
        self.assertEqual(lot_of(GreatestDoubt((1, 1), Weights([1, 1]), ((1, 2), (0, 1)))), (0,))
        self.assertEqual(lot_of(Weightless(())), ())

    def test_5_12_lots_are_sharp(self):
        chance = seeded(512)
        kinds = {"sharp": 0, "weightless": 0}
        for book, saying in mixed_books(chance, 700):
            bounds = some_bounds(chance, book, 1)
            answer = greatest_doubt(book, bounds, saying)
            lot = lot_of(answer)
            if isinstance(answer, Weightless):
                kinds["weightless"] += 1
                for day in range(book.marks.days):
                    word = plain_joined(book, lot, day)
                    self.assertTrue(word == "broken" if day in bits(saying.where) else word != "confirmed")
            elif Fraction(*answer.doubt) < 1:
                kinds["sharp"] += 1
                self.assertTrue(is_sharp(book, lot, saying))
        self.assertLess(50, min(kinds.values()))

    def test_5_13_great_parts(self):
        chance = seeded(513)
        kinds = {"weightless": 0, "yields": 0, "open": 0}
        for book, saying in mixed_books(chance, 500):
            many = len(book)
            parts = chance.choice((17, max(17, many + 2), 1000, 1000000))
            answer = greatest_doubt(book, [(1, parts)] * many, saying)
            layers = lifted_layers(book)
            without_end = all(layers[day] is None for day in bits(saying.where))
            self.assertEqual(isinstance(answer, Weightless), without_end)
            if without_end:
                kinds["weightless"] += 1
            elif plain_yields(book, saying):
                kinds["yields"] += 1
                self.assertLessEqual(Fraction(*answer.doubt), Fraction(many, parts))
            else:
                kinds["open"] += 1
                self.assertGreaterEqual(Fraction(*answer.doubt), Fraction(parts - 1, parts))
        self.assertLess(20, min(kinds.values()))
