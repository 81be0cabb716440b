"""Learning: point 7.9."""

from tests.helpers import (FOUR, ONE, THREE, TWO, Case, all_sayings, keeping, plain_keeps, seeded, some_book,
                           some_kept_book)
from tests.test_forces import plain_steep, some_steep_forces
from tests.test_weighing import plain_forced
from usualdays.books import Book
from usualdays.counting import counting_order, grades_of
from usualdays.errors import NeedNot
from usualdays.expecting import expects
from usualdays.forces import forced_order, is_steep
from usualdays.learning import Learned, learn
from usualdays.lifting import Stuck, lift
from usualdays.liftjudge import stuck_fault
from usualdays.sayings import Saying
from usualdays.weighing import ForAllForces, weigh

K = Book(TWO, [Saying(15, 10), Saying(15, 12)])


def books(chance, many):
    for _ in range(many):
        marks = chance.choice((ONE, TWO, TWO, THREE, FOUR))
        yield some_kept_book(chance, marks, chance.choice((0, 1, 3, 6, 12)), usual=True)


class Learning(Case):
    def test_7_9_the_least_steep_forces(self):
        chance = seeded(79)
        for book in books(chance, 250):
            learned = learn(book)
            self.assertIsInstance(learned, Learned)
            forces, grades = learned.forces, grades_of(book)
            self.assertIs(type(forces), tuple)
            self.assertEqual(len(forces), len(book))
            for number, grade in enumerate(grades):
                lower = sum(force for own, force in zip(grades, forces) if own < grade)
                self.assertEqual(forces[number], 1 + lower)
            self.assertTrue(plain_steep(grades, forces))
            drawn = some_steep_forces(chance, grades)
            self.assertTrue(all(least <= force for least, force in zip(forces, drawn)))

    def test_7_9_all_steep_forces_learn_the_book(self):
        chance = seeded(791)
        for book in books(chance, 250):
            for forces in [learn(book).forces] + [some_steep_forces(chance, grades_of(book)) for _ in range(5)]:
                layers = plain_forced(book, forces)
                self.assertTrue(all(plain_keeps(layers, saying) for saying in book))

    def test_7_9_against_all_orders(self):
        chance = seeded(792)
        kinds = {Learned: 0, Stuck: 0}
        for _ in range(300):
            marks = chance.choice((ONE, TWO))
            book = some_book(chance, marks, 5, usual=True)
            found = learn(book)
            kinds[type(found)] += 1
            orders = keeping(book)
            self.assertEqual(isinstance(found, Learned), orders != [])
            if orders:
                self.assertIn(forced_order(book, found.forces).closed().layers, orders)
                continue
            self.assertIsNone(stuck_fault(book, found))
            self.assertEqual(found.days, lift(book).days)
            for _ in range(10):
                forces = [chance.choice((1, 2, 5, 100, 10 ** 27)) for _ in book]
                layers = plain_forced(book, forces)
                self.assertFalse(all(plain_keeps(layers, saying) for saying in book))
        self.assertLess(50, min(kinds.values()))

    def test_7_9_what_is_expected_is_kept_for_all_steep_forces(self):
        chance = seeded(793)
        sayings = all_sayings(TWO, usual=True)
        for _ in range(60):
            book = some_kept_book(chance, TWO, chance.randint(0, 5), usual=True)
            grades = grades_of(book)
            for saying in sayings:
                if expects(book, saying):
                    self.assertIsInstance(weigh(book, grades, saying), ForAllForces)

    def test_7_9_powers_make_the_counting_order(self):
        chance = seeded(794)
        for book in books(chance, 250):
            grades = grades_of(book)
            forces = [(len(book) + 1) ** grade for grade in grades]
            self.assertTrue(is_steep(grades, forces))
            self.assertEqual(forced_order(book, forces).closed(), counting_order(book))

    def test_7_9_edges(self):
        self.assertEqual(learn(Book(TWO, [])).forces, ())
        chain = Book(FOUR, [Saying.of_days(2 ** day, 2 ** (day + 1)) for day in range(12)])
        self.assertEqual(learn(chain).forces, tuple(2 ** number for number in range(12)))
        back = Book(FOUR, list(chain)[::-1])
        self.assertEqual(learn(back).forces, tuple(2 ** number for number in range(11, -1, -1)))
        self.assertEqual(learn(Book(TWO, [Saying(15, 10)] * 12)).forces, (1,) * 12)
        self.assertEqual(learn(Book(TWO, [Saying(15, 10)] * 6 + [Saying.of_days(4, 1)] * 6)).forces,
                         (1,) * 6 + (7,) * 6)

    def test_7_9_need_not(self):
        for sayings, number in (([Saying(4, 0), Saying(3, 1, False), Saying(3, 1, False)], 1),
                                ([Saying(3, 3, False)], 0)):
            self.refuses(NeedNot(number), learn, Book(TWO, sayings))

    def test_example_of_part_7(self):
        self.assertEqual(learn(K).forces, (1, 1))

    def test_0_6_results_keep_their_arguments(self):
        self.assertEqual(vars(Learned((1, 2))), {"forces": (1, 2)})
