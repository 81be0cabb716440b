"""Forces: point 7.6."""

from tests.helpers import FOUR, ONE, STRANGE, TWO, Case, seeded, some_book
from tests.test_news import GREATEST, plain_news
from usualdays.books import Book
from usualdays.errors import BadForces, BadGrades, NeedNot
from usualdays.forces import forced_order, is_steep
from usualdays.news import Piece
from usualdays.orders import Order
from usualdays.sayings import Saying

NEED_NOT = Book(TWO, [Saying(4, 0), Saying(3, 1, False), Saying(5, 1, False)])


def plain_steep(grades, forces):
    numbers = range(len(grades))
    return all(forces[n] > sum(forces[m] for m in numbers if grades[m] < grades[n]) for n in numbers)


def some_steep_forces(chance, grades, spread=None):
    """Steep forces for grades, drawn; near the least ones if the spread is small."""
    forces = [0] * len(grades)
    for grade in sorted(set(grades)):
        below = sum(forces)
        wide = chance.choice((0, 1, 3, 100)) if spread is None else spread
        for number in [number for number, own in enumerate(grades) if own == grade]:
            forces[number] = below + 1 + chance.randint(0, wide)
    return tuple(forces)


class Steep(Case):
    def test_7_6_steep(self):
        for grades, forces, wanted in (
                ((), (), True), ((0,), (1,), True), ((0, 0), (1, GREATEST), True), ((0, 1), (1, 1), False),
                ((0, 1), (1, 2), True), ((1, 0), (2, 1), True), ((1, 0), (1, 1), False), ((0, 0, 1), (1, 1, 2), False),
                ((0, 0, 1), (1, 1, 3), True), ((0, 1, 2), (1, 2, 3), False), ((0, 1, 2), (1, 2, 4), True),
                ((0, 1, 1), (1, 2, 2), True), ((1000, 0), (GREATEST, GREATEST - 1), True),
                ((1000, 0), (GREATEST, GREATEST), False), ((7,) * 12, (1,) * 12, True)):
            self.assertIs(is_steep(grades, forces), wanted, (grades, forces))
            self.assertIs(is_steep(list(grades), list(forces)), wanted)

    def test_7_6_by_the_words(self):
        chance = seeded(76)
        found = {True: 0, False: 0}
        for _ in range(1000):
            many = chance.randint(0, 12)
            grades = [chance.randint(0, chance.choice((0, 2, 1000))) for _ in range(many)]
            forces = list(some_steep_forces(chance, grades, 0))
            self.assertTrue(is_steep(grades, forces))
            if many and chance.random() < 0.7:
                forces[chance.randrange(many)] += chance.choice((-1, 1, 5))
                forces = [max(force, 1) for force in forces]
            found[plain_steep(grades, forces)] += 1
            self.assertIs(is_steep(grades, forces), plain_steep(grades, forces))
        self.assertLess(100, min(found.values()))

    def test_7_6_bad_grades(self):
        for thing in STRANGE[:-4] + ([0] * 13, {}, "0", -1, {0: 0}, (1001,), [-1], [0, True], [None], ["0"], [1.0]):
            self.refuses(BadGrades(), is_steep, thing, None)
            self.refuses(BadGrades(), is_steep, thing, [1])

    def test_7_6_bad_forces(self):
        for thing in STRANGE + ([], (), [1], [1, 1, 1], [0, 1], [1, 0], [1, True], [True, 1], [1, None],
                                [1, GREATEST + 1],
                                "11", {0: 1, 1: 1}, [1, 1.0], [-1, 1]):
            self.refuses(BadForces(), is_steep, [0, 0], thing)
            self.refuses(BadForces(), forced_order, Book(TWO, [Saying(3, 1)] * 2), thing)
        for thing in ([1], None, [[]]):
            self.refuses(BadForces(), is_steep, [], thing)
            self.refuses(BadForces(), forced_order, Book(TWO, []), thing)


class Forced(Case):
    def test_7_6_forced_order(self):
        chance = seeded(761)
        for _ in range(200):
            marks = chance.choice((ONE, TWO, FOUR))
            book = some_book(chance, marks, 12, usual=True)
            forces = [chance.choice((1, 2, 7, GREATEST)) for _ in book]
            wanted = plain_news((0,) * marks.days, [Piece(saying, force) for saying, force in zip(book, forces)])
            for given in (forces, tuple(forces)):
                order = forced_order(book, given)
                self.assertIsInstance(order, Order)
                self.assertEqual(order.layers, wanted)

    def test_7_6_edges(self):
        self.assertEqual(forced_order(Book(FOUR, []), []), Order.flat(16))
        self.assertEqual(forced_order(Book(TWO, [Saying(15, 1)] * 12), [GREATEST] * 12).layers,
                         (0,) + (12 * GREATEST,) * 3)
        self.assertEqual(forced_order(Book(TWO, [Saying(15, 0)]), [9]), Order.flat(4))

    def test_7_6_need_not_comes_first(self):
        for thing in (None, [], [1] * 3, [0] * 3):
            self.refuses(NeedNot(1), forced_order, NEED_NOT, thing)
