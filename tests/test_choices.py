"""Choices: point 6.6."""

from tests.helpers import FOUR, ONE, STRANGE, THREE, TWO, Case, bits, keeping, seeded
from tests.test_tables import plain_normal, some_normals
from usualdays.books import Book
from usualdays.choices import choice_sayings, lift_choices
from usualdays.errors import BadChoice, OtherDays
from usualdays.lifting import Lifted, Stuck, lift
from usualdays.liftjudge import lifted_fault, stuck_fault
from usualdays.sayings import Saying
from usualdays.tables import Choosy, Table, settle

WRONG = STRANGE + ([], (), (3,), (3, 1, 1), (3, 4), (3, 5), (3, 0), (0, 0), (1, 2), (65536, 1), (65536, 65536), (-1, 1),
                   (3, -1), (True, True), (3, True), (True, 1), (None, 1), (3, None), ("3", "1"), "31", {3: 1, 1: 3},
                   (3, 1.0),
                   Saying(3, 1), [[3], [1]])


def plain_sayings(many, normal):
    """The sayings of a choice, by the words of point 6.6."""
    found = [Saying(many, normal)]
    for day in bits(normal):
        found.append(Saying.of_days(many - 2 ** day, 2 ** day, False))
    return found


def some_choice(chance, marks):
    many = chance.randint(1, marks.all_days)
    return chance.choice((tuple, list))((many, chance.randint(1, many) & many or many))


class Choices(Case):
    def test_6_6_sayings_of_each_choice(self):
        for many in range(1, 16):
            for normal in range(1, many + 1):
                if normal & ~many == 0:
                    for choice in ((many, normal), [many, normal]):
                        sayings = choice_sayings([choice])
                        self.assertIs(type(sayings), tuple)
                        self.assertEqual(sayings, tuple(plain_sayings(many, normal)))

    def test_6_6_choice_by_choice(self):
        sayings = choice_sayings(((7, 3), [12, 8], (7, 3)))
        self.assertEqual(sayings, tuple(plain_sayings(7, 3) + plain_sayings(12, 8) + plain_sayings(7, 3)))
        self.assertEqual(choice_sayings([]), ())
        self.assertEqual(choice_sayings([(65535, 65535)])[1:], tuple(
            Saying.of_days(65535 - 2 ** day, 2 ** day, False) for day in range(16)))
        self.assertEqual(choice_sayings([(4, 4)]), (Saying(4, 4), Saying(4, 0, False)))

    def test_6_6_an_order_keeps_them_exactly_if_it_makes_the_choice(self):
        for many in range(1, 16):
            for normal in range(1, many + 1):
                if normal & ~many == 0:
                    making = keeping(Book(TWO, []), *choice_sayings([(many, normal)]))
                    wanted = [layers for layers in keeping(Book(TWO, [])) if plain_normal(layers, many) == normal]
                    self.assertEqual(making, wanted)

    def test_6_6_bad_choice(self):
        for thing in WRONG:
            for ask in (choice_sayings, lambda choices: lift_choices(ONE, choices)):
                self.refuses(BadChoice(0), ask, [thing])
                self.refuses(BadChoice(2), ask, ((65535, 1), [3, 3], thing, None))

    def test_6_6_other_days(self):
        for choice in ((16, 16), (31, 1), (65535, 65535)):
            self.refuses(OtherDays(), lift_choices, TWO, [(3, 1), choice])
            self.refuses(BadChoice(1), lift_choices, TWO, [choice, (1, 2)])
        self.refuses(OtherDays(), lift_choices, ONE, [(7, 1)])
        self.assertIsInstance(lift_choices(FOUR, [(65535, 32768)]), Lifted)

    def test_6_6_lift_choices(self):
        chance = seeded(66)
        kinds = {Lifted: 0, Stuck: 0}
        for _ in range(400):
            marks = chance.choice((ONE, TWO))
            choices = [some_choice(chance, marks) for _ in range(chance.randint(0, 4))]
            found = lift_choices(marks, choices)
            kinds[type(found)] += 1
            making = [layers for layers in keeping(Book(marks, []))
                      if all(plain_normal(layers, many) == normal for many, normal in choices)]
            self.assertEqual(isinstance(found, Lifted), making != [])
            sayings = choice_sayings(choices)
            if making:
                self.assertEqual(found.order.layers, tuple(min(layers) for layers in zip(*making)))
                self.assertIsNone(lifted_fault(Book(marks, []), found, *sayings))
            else:
                self.assertIsNone(stuck_fault(Book(marks, []), found, *sayings))
                self.assertEqual(found.days, lift(Book(marks, []), *sayings).days)
        self.assertLess(50, min(kinds.values()))

    def test_6_6_the_choices_of_a_choosy_are_stuck(self):
        chance = seeded(661)
        for marks, days in ((TWO, 4), (THREE, 8)):
            for _ in range(60):
                table = Table(some_normals(chance, days))
                answer = settle(table)
                if isinstance(answer, Choosy):
                    choices = [(day_set, table.normals[day_set]) for day_set in (answer.many, answer.few)]
                    self.assertIsInstance(lift_choices(marks, choices), Stuck)

    def test_6_6_three_choices_of_which_any_two_are_made(self):
        choices = [(3, 1), (6, 2), (5, 4)]
        self.assertIsInstance(lift_choices(TWO, choices), Stuck)
        for left in range(3):
            self.assertIsInstance(lift_choices(TWO, choices[:left] + choices[left + 1:]), Lifted)

    def test_6_6_many_choices(self):
        chance = seeded(662)
        layers = [chance.randint(0, 9) for _ in range(16)]
        choices = []
        while len(choices) < 1000:
            many = chance.randint(1, 65535)
            choices.append((many, plain_normal(layers, many)))
        self.assertIsInstance(lift_choices(FOUR, choices), Lifted)

    def test_example_of_part_6(self):
        self.assertEqual([(x.low, x.high, x.step) for x in choice_sayings([(7, 3)])], [(3, 4, 1), (1, 6, 0), (2, 5, 0)])
