"""Looks: points 9.1 and 9.2."""

import itertools

from tests.helpers import (FOUR, ONE, STRANGE, THREE, TWO, Case, bits, keeping, plain_keeps, seeded, some_book,
                           some_kept_book, some_saying)
from usualdays.books import Book
from usualdays.errors import NoDay, NoMark, OtherDays
from usualdays.lifting import Stuck, lift
from usualdays.looks import look_day, look_of, spread_over, widened_book, widened_days
from usualdays.marks import Marks
from usualdays.orders import Order
from usualdays.sayings import Saying
from usualdays.told import tells

ALL_NAMES = "abcd"


def plain_look(marks, day, names):
    """The shared day, by the words of point 9.1."""
    return sum(2 ** place for place, name in enumerate(names) if name in marks.names_on(day))


def some_names(chance, marks):
    return chance.sample(marks.names, chance.randint(0, marks.count))


def some_more(chance, marks):
    """More marks, in any order, with those of marks among them."""
    names = [name for name in ALL_NAMES if name in marks.names or chance.random() < 0.5]
    chance.shuffle(names)
    return Marks(names)


class Looks(Case):
    def test_9_1_look_day(self):
        for marks in (ONE, TWO, THREE, FOUR, Marks(("d", "b"))):
            for count in range(marks.count + 1):
                for names in itertools.permutations(marks.names, count):
                    for day in range(marks.days):
                        self.assertEqual(look_day(marks, day, names), plain_look(marks, day, names))
                        self.assertEqual(look_day(marks, day, list(names)), plain_look(marks, day, names))
        self.assertEqual([look_day(THREE, 5, names) for names in ("a", "b", "ca", "bc", "cba")], [1, 0, 3, 2, 5])
        self.assertEqual([look_day(TWO, day, ()) for day in range(4)], [0] * 4)

    def test_9_1_look_of_and_spread_over(self):
        chance = seeded(91)
        for _ in range(400):
            marks = chance.choice((ONE, TWO, THREE, FOUR))
            names = some_names(chance, marks)
            layers = [chance.randint(0, chance.choice((3, 10 ** 30))) for _ in range(marks.days)]
            shown = look_of(marks, layers, names)
            self.assertIs(type(shown), tuple)
            self.assertEqual(shown, tuple(
                min(layers[day] for day in range(marks.days) if plain_look(marks, day, names) == look)
                for look in range(2 ** len(names))))
            spread = spread_over(marks, shown, tuple(names))
            self.assertIs(type(spread), tuple)
            self.assertEqual(spread, tuple(shown[plain_look(marks, day, names)] for day in range(marks.days)))
            self.assertTrue(all(low <= own for low, own in zip(spread, layers)))
            self.assertEqual(look_of(marks, spread, names), shown)

    def test_9_1_kinds_of_layers(self):
        order = Order((3, 0, 5, 2))
        for layers in ([3, 0, 5, 2], (3, 0, 5, 2), order):
            self.assertEqual(look_of(TWO, layers, ["a"]), (3, 0))
            self.assertEqual(look_of(TWO, layers, ["b"]), (0, 2))
            self.assertEqual(look_of(TWO, layers, ("b", "a")), (3, 5, 0, 2))
            self.assertEqual(look_of(TWO, layers, ()), (0,))
            self.assertEqual(spread_over(THREE, layers, ("c", "a")), (3, 5, 3, 5, 0, 2, 0, 2))
        self.assertEqual(spread_over(TWO, Order((0, 7)), ["b"]), (0, 0, 7, 7))
        self.assertEqual(spread_over(TWO, [4], []), (4,) * 4)
        # Layers need no 0, and what was passed in stays as it is.
        layers, names = [3, 9, 5, 2], ["b", "a"]
        self.assertEqual((look_of(TWO, layers, names), layers, names), ((3, 5, 9, 2), [3, 9, 5, 2], ["b", "a"]))
        self.assertEqual(spread_over(TWO, layers, names), (3, 5, 9, 2))
        self.assertEqual(layers, [3, 9, 5, 2])

    def test_9_1_no_mark(self):
        for name in ("c", "aa", "and", *STRANGE):
            for names in ([name], ["a", name], ("b", name, "q"), (name, "a")):
                self.refuses(NoMark(name), look_day, TWO, 0, names)
                self.refuses(NoMark(name), look_day, TWO, 4, names)
                self.refuses(NoMark(name), look_of, TWO, [0] * 4, names)
                self.refuses(NoMark(name), look_of, TWO, [0], names)
                self.refuses(NoMark(name), spread_over, TWO, [0] * 4, names)
                self.refuses(NoMark(name), spread_over, TWO, [], names)

    def test_9_1_no_day(self):
        for marks in (ONE, TWO, FOUR):
            for day in (marks.days, 16, 100, *STRANGE):
                self.refuses(NoDay(day), look_day, marks, day, ["a"])
                self.refuses(NoDay(day), look_day, marks, day, ())

    def test_9_1_other_days(self):
        for many in (0, 1, 2, 3, 5, 8, 16):
            self.refuses(OtherDays(), look_of, TWO, [0] * many, ["a"])
            self.refuses(OtherDays(), look_of, TWO, (0,) * many, ())
            if many != 2:
                self.refuses(OtherDays(), spread_over, TWO, [0] * many, ["b"])
            if many != 1:
                self.refuses(OtherDays(), spread_over, TWO, [0] * many, ())
        self.refuses(OtherDays(), look_of, TWO, Order.flat(8), ["a", "b"])
        self.refuses(OtherDays(), spread_over, TWO, Order.flat(2), ["a", "b"])


class Widened(Case):
    def test_9_2_days(self):
        chance = seeded(92)
        for _ in range(200):
            marks = Marks(chance.sample(ALL_NAMES, chance.randint(1, 3)))
            more = some_more(chance, marks)
            day_set = chance.randint(0, marks.all_days)
            wide = widened_days(marks, day_set, more)
            self.assertEqual(bits(wide), [day for day in range(more.days)
                                          if plain_look(more, day, marks.names) in bits(day_set)])
        self.assertEqual(widened_days(TWO, 0, FOUR), 0)
        self.assertEqual(widened_days(TWO, 15, FOUR), 65535)
        self.assertEqual(widened_days(TWO, 2, Marks(("b", "a"))), 4)
        self.assertEqual(widened_days(FOUR, 12345, FOUR), 12345)

    def test_9_2_books(self):
        chance = seeded(921)
        stuck = 0
        for _ in range(150):
            marks = Marks(chance.sample(ALL_NAMES, chance.randint(1, 4)))
            more = some_more(chance, marks)
            book = some_book(chance, marks, 6) if chance.random() < 0.3 else some_kept_book(chance, marks, 5)
            wide = widened_book(book, more)
            self.assertEqual(wide, Book(more, [Saying(widened_days(marks, saying.where, more),
                                                      widened_days(marks, saying.then, more), saying.usual)
                                               for saying in book]))
            narrow, wider = lift(book), lift(wide)
            self.assertIs(type(narrow), type(wider))
            if isinstance(narrow, Stuck):
                stuck += 1
            else:
                self.assertEqual(wider.order.layers, spread_over(more, narrow.order, marks.names))
            saying = some_saying(chance, marks)
            widened = widened_book(Book(marks, [saying]), more)[0]
            self.assertEqual(tells(book, saying), tells(wide, widened))
        self.assertLess(10, stuck)

    def test_9_2_all_orders(self):
        chance = seeded(922)
        for _ in range(60):
            marks = Marks((chance.choice("ab"),))
            more = Marks(chance.choice((("a", "b"), ("b", "a"))))
            book = some_book(chance, marks, 3)
            wide = widened_book(book, more)
            seen = [layers for layers in keeping(Book(more, []))
                    if all(plain_keeps(look_of(more, layers, marks.names), saying) for saying in book)]
            self.assertEqual(keeping(wide), seen)

    def test_9_2_no_mark(self):
        for marks, more, name in ((TWO, ONE, "b"), (FOUR, TWO, "c"), (TWO, Marks(("x", "y")), "a"),
                                  (Marks(("q", "a", "p")), FOUR, "q"), (Marks(("d", "q")), THREE, "d")):
            self.refuses(NoMark(name), widened_days, marks, 0, more)
            self.refuses(NoMark(name), widened_days, marks, 3, more)
            self.refuses(NoMark(name), widened_book, Book(marks, []), more)
            self.refuses(NoMark(name), widened_book, Book(marks, [Saying(1, 1)]), more)

    def test_9_2_days_of_then_outside_where(self):
        wide = widened_book(Book(TWO, [Saying(1, 14, False)] * 12), THREE)
        self.assertEqual(wide, Book(THREE, [Saying(17, 238, False)] * 12))
