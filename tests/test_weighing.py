"""Weighing: points 7.7 and 7.8."""

import itertools

from tests.helpers import (FOUR, ONE, STRANGE, THREE, TWO, Case, all_sayings, bits, plain_keeps, seeded, some_book,
                           some_saying)
from tests.test_forces import plain_steep, some_steep_forces
from tests.test_news import GREATEST, plain_news
from usualdays.books import Book
from usualdays.errors import BadGrades, NeedNot, OtherDays
from usualdays.news import Piece
from usualdays.sayings import Saying
from usualdays.weighing import ForAllForces, NotForAll, weigh, weigh_fault

K = Book(TWO, [Saying(15, 10), Saying(15, 12)])
NEED_NOT = Book(TWO, [Saying(4, 0), Saying(3, 1, False), Saying(5, 1, False)])


def plain_forced(book, forces):
    return plain_news((0,) * book.marks.days, [Piece(saying, force) for saying, force in zip(book, forces)])


def broken_by(book, day):
    return {number for number, saying in enumerate(book) if day in bits(saying.broken)}


def plain_outdoes(book, grades, day, other):
    """By the words of point 7.7, grade by grade from the greatest down."""
    mine, theirs = broken_by(book, day), broken_by(book, other)
    for grade in sorted(set(grades), reverse=True):
        of_grade = {number for number, own in enumerate(grades) if own == grade}
        if mine & of_grade != theirs & of_grade:
            return mine & of_grade <= theirs & of_grade
    return False


def plain_matches(book, grades, saying, day, high):
    if day not in bits(saying.low):
        return False
    same = broken_by(book, day) == broken_by(book, high)
    return plain_outdoes(book, grades, day, high) or not saying.usual and same


def plain_word(book, grades, saying, answer):
    """The word for an answer, by the words of point 7.8."""
    days = range(book.marks.days)
    if isinstance(answer, NotForAll):
        forces = answer.forces
        if type(forces) not in (list, tuple) or len(forces) != len(book):
            return "forces"
        if any(type(force) is not int or not 1 <= force <= GREATEST for force in forces):
            return "forces"
        if not plain_steep(grades, forces):
            return "forces"
        return "kept" if plain_keeps(plain_forced(book, forces), saying) else None
    matches = answer.matches
    if len(matches) != len(days):
        return "count"
    for day in days:
        right = [low for low in bits(saying.low)] if day in bits(saying.high) else [None]
        if matches[day] not in right or type(matches[day]) is bool:
            return "day"
    fits = [plain_matches(book, grades, saying, matches[day], day) for day in bits(saying.high)]
    return None if all(fits) else "match"


def some_grades(chance, book):
    most = chance.choice((0, 1, 2, 1000))
    return chance.choice((tuple, list))([chance.randint(0, most) for _ in book])


class Weighing(Case):
    def weighed(self, chance, book, grades, saying):
        answer = weigh(book, grades, saying)
        self.assertIsNone(weigh_fault(book, grades, saying, answer))
        self.assertIsNone(plain_word(book, grades, saying, answer))
        if isinstance(answer, NotForAll):
            self.assertIs(type(answer.forces), tuple)
            return False
        self.assertIs(type(answer.matches), tuple)
        for _ in range(6):
            forces = some_steep_forces(chance, grades)
            self.assertTrue(plain_keeps(plain_forced(book, forces), saying))
        return True

    def test_7_7_against_drawn_steep_forces(self):
        chance = seeded(77)
        found = {True: 0, False: 0}
        for _ in range(500):
            marks = chance.choice((ONE, TWO, TWO, THREE, FOUR))
            book = some_book(chance, marks, chance.choice((1, 3, 12)), usual=True)
            grades = some_grades(chance, book)
            for _ in range(3):
                saying = some_saying(chance, marks)
                if chance.random() < 0.5:
                    where = saying.where & chance.randint(1, marks.all_days) or 1
                    saying = Saying(where, saying.then, saying.usual)
                found[self.weighed(chance, book, grades, saying)] += 1
        self.assertLess(300, min(found.values()))

    def test_7_7_all_small_steep_forces(self):
        chance = seeded(771)
        sayings = all_sayings(TWO)
        for _ in range(40):
            book = Book(TWO, [some_saying(chance, TWO, usual=True) for _ in range(3)])
            grades = [chance.randint(0, 2) for _ in range(3)]
            steep = [forces for forces in itertools.product(range(1, 9), repeat=3) if plain_steep(grades, forces)]
            orders = {plain_forced(book, forces) for forces in steep}
            for saying in chance.sample(sayings, 25):
                kept = all(plain_keeps(layers, saying) for layers in orders)
                self.assertEqual(isinstance(weigh(book, grades, saying), ForAllForces), kept)

    def test_7_7_books_without_sayings(self):
        empty = Book(TWO, [])
        self.assertEqual(weigh(empty, (), Saying(3, 1, False)).matches, (1, None, None, None))
        self.assertEqual(weigh(empty, [], Saying(3, 1)).forces, ())
        self.assertEqual(weigh(empty, [], Saying(3, 3)).matches, (None,) * 4)
        self.assertEqual(weigh(empty, [], Saying(3, 0, False)).matches, (None,) * 4)
        self.assertEqual(weigh(empty, [], Saying(3, 0)).forces, ())
        self.assertEqual(weigh(empty, [], Saying(3, 3, False)).forces, ())

    def test_7_7_twelve_sayings(self):
        chance = seeded(772)
        for _ in range(60):
            book = Book(FOUR, [some_saying(chance, FOUR, usual=True) for _ in range(12)])
            for grades in (range(12), (1000,) * 12, [0, 1000] * 6, range(11, -1, -1)):
                self.weighed(chance, book, list(grades), some_saying(chance, FOUR))
        same = Book(TWO, [Saying(15, 1)] * 12)
        self.assertTrue(self.weighed(chance, same, list(range(12)), Saying(15, 1)))
        self.assertFalse(self.weighed(chance, same, list(range(12)), Saying(6, 2)))
        self.assertTrue(self.weighed(chance, same, list(range(12)), Saying(6, 2, False)))

    def test_7_7_higher_grades_first(self):
        # Day 1 breaks saying 0, day 2 saying 1, day 0 both and day 3 none.
        book = K
        for grades, saying, wanted in (((0, 0), Saying(6, 2), False), ((0, 0), Saying(6, 4), False),
                                       ((1, 0), Saying(6, 2), True), ((1, 0), Saying(6, 4), False),
                                       ((0, 1), Saying(6, 2), False), ((0, 1), Saying(6, 4), True),
                                       ((0, 0), Saying(7, 6), True), ((0, 0), Saying(6, 2, False), False),
                                       ((3, 2), Saying(6, 4, False), True), ((3, 2), Saying(6, 2, False), False)):
            self.assertEqual(isinstance(weigh(book, grades, saying), ForAllForces), wanted, (grades, saying.then))

    def test_7_7_errors(self):
        for ask in (weigh, lambda *args: weigh_fault(*args, NotForAll(()))):
            for saying in (Saying(16, 1), Saying(1, 16), Saying(65535, 3, False)):
                self.refuses(OtherDays(), ask, K, None, saying)
                self.refuses(OtherDays(), ask, NEED_NOT, None, saying)
            self.refuses(NeedNot(1), ask, NEED_NOT, None, Saying(3, 1))
            for thing in STRANGE + ([], (), [0], [0] * 3, [0] * 12, [0, True], [0, None], [0, -1], [1001, 0], "00",
                                    [0, 0.0],
                                    {0: 0, 1: 0}, [False, 0]):
                for saying in (Saying(3, 1), Saying(3, 1, False)):
                    self.refuses(BadGrades(), ask, K, thing, saying)

    def test_example_of_part_7(self):
        self.assertEqual(weigh(K, (0, 0), Saying(5, 4)).matches, (2, None, None, None))
        self.assertEqual(weigh(K, (1, 0), Saying(6, 2)).matches, (None, None, 1, None))
        self.assertIsNone(weigh_fault(K, (0, 0), Saying(6, 2), weigh(K, (0, 0), Saying(6, 2))))

    def test_0_6_results_keep_their_arguments(self):
        self.assertEqual(vars(ForAllForces((None, 0))), {"matches": (None, 0)})
        self.assertEqual(vars(NotForAll((1, 2))), {"forces": (1, 2)})


class Judging(Case):
    def test_7_8_for_all_forces(self):
        for matches, word in (((2, None, None, None), None), ((2, None, None), "count"), ((), "count"),
                              ((7,) * 5, "count"),
                              ((None,) * 4, "day"), ((0, None, None, None), "day"), ((1, None, None, None), "day"),
                              ((3, None, None, None), "day"), ((4, None, None, None), "day"),
                              ((-2, None, None, None), "day"),
                              ((True, None, None, None), "day"), ((2, None, 2, None), "day"),
                              ((2, 0, None, None), "day"),
                              ((2, None, None, False), "day")):
            self.assertEqual(weigh_fault(K, (0, 0), Saying(5, 4), ForAllForces(matches)), word, matches)
            self.assertEqual(plain_word(K, (0, 0), Saying(5, 4), ForAllForces(matches)), word, matches)
        self.assertEqual(weigh_fault(K, (0, 0), Saying(6, 2), ForAllForces((None, None, 1, None))), "match")
        self.assertIsNone(weigh_fault(K, (1, 0), Saying(6, 2), ForAllForces((None, None, 1, None))))
        self.assertEqual(weigh_fault(K, (0, 1), Saying(6, 2), ForAllForces((None, None, 1, None))), "match")
        # Day 1 breaks saying 0 and day 3 nothing; both match day 0.
        self.assertIsNone(weigh_fault(K, (0, 0), Saying(11, 10), ForAllForces((1, None, None, None))))
        self.assertIsNone(weigh_fault(K, (0, 0), Saying(11, 10), ForAllForces((3, None, None, None))))

    def test_7_8_breaking_the_same_matches_for_need_not_alone(self):
        book = Book(TWO, [Saying(15, 12)])
        self.assertIsNone(weigh_fault(book, [0], Saying(3, 1, False), ForAllForces((1, None, None, None))))
        self.assertEqual(weigh_fault(book, [0], Saying(3, 2), ForAllForces((1, None, None, None))), "match")
        self.assertEqual(weigh_fault(K, [0, 0], Saying(6, 4, False), ForAllForces((None, None, 1, None))), "match")

    def test_7_8_not_for_all(self):
        for grades, forces, word in (((0, 0), (1, 1), None), ((0, 0), [2, 1], None), ((0, 0), (1, 2), "kept"),
                                     ((0, 1), (1, 1), "forces"), ((0, 1), (2, 2), "forces"), ((1, 0), (3, 2), None),
                                     ((1, 0), (2, 2), "forces"), ((0, 0), (1,), "forces"),
                                     ((0, 0), (1, 1, 1), "forces"),
                                     ((0, 0), (1, 0), "forces"), ((0, 0), (1, GREATEST + 1), "forces"),
                                     ((0, 0), None, "forces"),
                                     ((0, 0), "11", "forces"), ((0, 0), (True, 1), "forces"),
                                     ((0, 0), (1, None), "forces"),
                                     ((0, 0), {0: 1, 1: 1}, "forces"), ((0, 0), (GREATEST, GREATEST), None)):
            self.assertEqual(weigh_fault(K, grades, Saying(6, 4), NotForAll(forces)), word, (grades, forces))
            self.assertEqual(plain_word(K, grades, Saying(6, 4), NotForAll(forces)), word, (grades, forces))

    def test_7_8_against_the_words_of_the_text(self):
        chance = seeded(78)
        words = set()
        for _ in range(4000):
            book = some_book(chance, TWO, 3, usual=True)
            grades = some_grades(chance, book)
            saying = some_saying(chance, TWO)
            answer = weigh(book, grades, saying)
            if isinstance(answer, NotForAll):
                forces = [chance.choice((force, force, chance.randint(0, 4))) for force in answer.forces]
                answer = NotForAll(tuple(forces + [1] * (chance.random() < 0.1)))
            else:
                matches = [chance.choice((match,) * 5 + (chance.choice((None, -1, 0, 1, 2, 3,
                                                                        4)),)) for match in answer.matches]
                answer = ForAllForces(tuple(matches[:4 - (chance.random() < 0.1)]))
            if chance.random() < 0.2:
                matches = [chance.randint(0, 3) if day in bits(saying.high) else None for day in range(4)]
                answer = ForAllForces(tuple(matches))
            word = plain_word(book, grades, saying, answer)
            words.add((type(answer).__name__, word))
            self.assertEqual(weigh_fault(book, grades, saying, answer), word)
        self.assertEqual(words, {("NotForAll", None), ("NotForAll", "forces"), ("NotForAll", "kept")} | {
            ("ForAllForces", word) for word in (None, "count", "day", "match")})
