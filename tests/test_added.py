"""Added sayings: point 9.11."""

from tests.helpers import ONE, ORDERS, TWO, Case, all_sayings, bits, keeping, plain_keeps, seeded, some_saying
from tests.test_parting import small_watchers
from tests.test_watchers import some_watchers
from usualdays.added import added_saying
from usualdays.books import Book
from usualdays.exchange import Clash, meet
from usualdays.marks import Marks
from usualdays.orders import Order
from usualdays.pins import pin
from usualdays.sayings import Saying
from usualdays.told import tells
from usualdays.watchers import Watchers, standing_of

SAYINGS = {marks.days: all_sayings(marks) for marks in (ONE, TWO)}


# A day that lies between two others, but not at the bottom of them, lies above the lower one.
ONLY_USUAL = [Saying.of_days(2, 1, False), Saying.of_days(4, 2, False)], [Saying.of_days(5, 2)]


def kept_by(saying, orders):
    return all(plain_keeps(layers, saying) for layers in orders)


def plain_added(both):
    """All added sayings, by all orders."""
    one, other, together = (keeping(book) for book in (both.wide_one, both.wide_other, both.together))
    return [saying for saying in SAYINGS[both.marks.days]
            if not kept_by(saying, one) and not kept_by(saying, other) and kept_by(saying, together)]


class Added(Case):
    def found(self, both):
        saying = added_saying(both)
        if saying is not None:
            self.assertIs(type(saying), Saying)
            self.assertEqual(standing_of(both, saying), "together")
        return saying

    def against_all_orders(self, both):
        saying = self.found(both)
        self.assertEqual(saying is not None, plain_added(both) != [])
        return saying

    def test_9_11_one_mark(self):
        sayings = SAYINGS[2]
        for one in sayings:
            for other in sayings:
                self.against_all_orders(Watchers(Book(ONE, [one]), Book(ONE, [other])))

    def test_9_11_two_marks(self):
        chance = seeded(911)
        kinds = []
        for _ in range(60):
            both = small_watchers(chance)
            kinds.append((self.against_all_orders(both) is None, isinstance(meet(both), Clash)))
        self.assertLessEqual({(True, False), (False, False)}, set(kinds))
        # No order keeps one of two pins together with the other one.
        pins = [pin(TWO, Order(layers)) for layers in ORDERS[4]]
        for _ in range(20):
            both = Watchers(*chance.sample(pins, 2))
            self.assertIsInstance(meet(both), Clash)
            self.assertIsNotNone(self.found(both))

    def kinds_added(self, one, other, marks=TWO):
        """The kinds and the numbers of high days of all added sayings; also found with the books exchanged."""
        both = Watchers(Book(marks, one), Book(marks, other))
        self.against_all_orders(both)
        self.against_all_orders(Watchers(both.other, both.one))
        return {(saying.usual, len(bits(saying.high))) for saying in plain_added(both)}

    def test_9_11_only_with_two_high_days(self):
        # Nothing is added with one high day, but each book tells a part of what both tell.
        low, high = Saying.of_days(1, 2), Saying.of_days(1, 4)
        level, up = Saying.of_days(2, 1, False), Saying.of_days(4, 1, False)
        self.assertEqual(self.kinds_added([low], [high]), {(True, 2), (False, 2)})
        self.assertEqual(self.kinds_added([level], [up]), {(False, 2)})
        self.assertEqual(self.kinds_added([low, up], [high, level]), {(True, 2)})

    def test_9_11_each_kind_alone(self):
        level = [Saying.of_days(2, 1, False)], [Saying.of_days(4, 2, False)]
        self.assertEqual({kind for kind, _ in self.kinds_added(*level)}, {False})
        for one, other in (([Saying.of_days(6, 1)], [Saying.of_days(1, 8, False), Saying.of_days(4, 8, False)]),
                           ([Saying.of_days(13, 2), Saying.of_days(6, 9), Saying.of_days(2, 12, False)],
                            [Saying.of_days(8, 2)]),
                           ([Saying.of_days(4, 2), Saying.of_days(10, 1, False), Saying.of_days(8, 7, False)],
                            [Saying.of_days(2, 4, False), Saying.of_days(12, 1, False)])):
            self.kinds_added(one, other)
        self.assertEqual({kind for kind, _ in self.kinds_added(*ONLY_USUAL)}, {True})

    def test_9_11_clash(self):
        clash = Watchers(Book(ONE, [Saying(3, 1)]), Book(ONE, [Saying(3, 2)]))
        self.assertIsInstance(meet(clash), Clash)
        self.assertIsNotNone(self.found(clash))
        for saying in SAYINGS[2]:
            if saying.low == 0:
                self.assertEqual(standing_of(clash, saying), "together")

    def test_9_11_none(self):
        impossible = Book(ONE, [Saying(1, 0)])
        for both in (Watchers(Book(ONE, []), Book(Marks(("b",)), [])), Watchers(impossible, Book(ONE, [Saying(3, 1)])),
                     Watchers(Book(ONE, [Saying(3, 1)]), impossible), Watchers(impossible, impossible),
                     Watchers(Book(TWO, [Saying(15, 5)] * 2), Book(TWO, [Saying(15, 5)])),
                     Watchers(pin(TWO, Order((0, 1, 1, 2))), Book(ONE, [Saying(3, 1)]))):
            self.assertIsNone(self.against_all_orders(both))
        # None, although neither book tells the other one's sayings.
        both = Watchers(Book(TWO, [Saying.of_days(8, 1, False)]), Book(ONE, [Saying(3, 1)]))
        one, other = both.together
        self.assertFalse(tells(both.wide_one, other) or tells(both.wide_other, one))
        self.assertIsNone(self.against_all_orders(both))

    def test_9_11_three_and_four_marks(self):
        chance = seeded(9112)
        kinds = set()
        for _ in range(40):
            both = some_watchers(chance, chance.choice(("abc", "abcd")), 3, 4, 0.9)
            saying = self.found(both)
            kinds.add((saying is None, both.marks.count))
            if saying is None:
                for _ in range(40):
                    drawn = some_saying(chance, both.marks)
                    self.assertNotEqual(standing_of(both, drawn), "together")
        self.assertLess(4, len(kinds))
