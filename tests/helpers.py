"""What several tests need: expected errors, all orders without gaps, and books by a fixed seed."""

import itertools
import random
import unittest
from fractions import Fraction

from usualdays.books import Book
from usualdays.marks import Marks
from usualdays.orders import Order
from usualdays.sayings import Saying

ONE = Marks(("a",))
TWO = Marks(("a", "b"))
THREE = Marks(("a", "b", "c"))
FOUR = Marks(("a", "b", "c", "d"))

# What is never a number, a day, a mark or a lot of anything; lists come as new ones, for they can be changed.
STRANGE = (True, False, None, "0", "", 1.0, (0,), [0], {}, -1)


def told_of(error):
    """What an error tells, so that True and 1 differ."""
    return {name: (type(value), value) for name, value in vars(error).items()}


class Case(unittest.TestCase):
    def refuses(self, expected, call, *args, **named):
        """The call raises just this error, with just these attributes."""
        with self.assertRaises(type(expected), msg=(args, named)) as caught:
            call(*args, **named)
        self.assertIs(type(caught.exception), type(expected), (args, named))
        self.assertEqual(told_of(caught.exception), told_of(expected), (args, named))

    def differs(self, one, *others):
        """One thing equals none of the others, from either side."""
        for other in others:
            self.assertFalse(one == other, other)
            self.assertTrue(one != other, other)
            self.assertFalse(other == one, other)


def bits(day_set):
    return [day for day in range(16) if day_set & 2 ** day]


def plain_keeps(layers, saying):
    """Keeping, by the words of point 0.2 alone."""
    where = bits(saying.where)
    confirming = [day for day in where if day in bits(saying.then)]
    breaking = [day for day in where if day not in bits(saying.then)]
    usual = all(any(layers[low] < layers[day] for low in confirming) for day in breaking)
    return usual if saying.usual else not usual


def plain_orders(days):
    """All orders of so many days without gaps, as tuples."""
    found = []
    for layers in itertools.product(range(days), repeat=days):
        if sorted(set(layers)) == list(range(max(layers) + 1)):
            found.append(layers)
    return found


ORDERS = {2: plain_orders(2), 4: plain_orders(4)}


def keeping(book, *further):
    """All orders without gaps that keep a book over one or two marks, as tuples."""
    sayings = list(book) + list(further)
    return [layers for layers in ORDERS[book.marks.days]
            if all(plain_keeps(layers, saying) for saying in sayings)]


def plain_tells(book, saying):
    return all(plain_keeps(layers, saying) for layers in keeping(book))


def plain_lots(many):
    return [lot for length in range(many + 1) for lot in itertools.combinations(range(many), length)]


def plain_joined(book, lot, day):
    """The word of a lot for a day, by the words of point 2.5."""
    words = [book[number].on(day) for number in lot]
    return "broken" if "broken" in words else "confirmed" if "confirmed" in words else "silent"


def is_sharp(book, lot, saying):
    """Sharpness, day by day, by the words of the points 2.5, 2.6 and 4.4."""
    for day in range(book.marks.days):
        word = plain_joined(book, lot, day)
        if word == "confirmed" and saying.on(day) != "confirmed":
            return False
        if saying.on(day) == "broken" and word != "broken":
            return False
    return True


def plain_yields(book, saying):
    return any(is_sharp(book, lot, saying) for lot in plain_lots(len(book)))


def lowest(layers, day_set):
    return min(layers[day] for day in bits(day_set))


def some_saying(chance, marks, usual=None):
    where = chance.randint(1, marks.all_days)
    kind = chance.random() < 0.6 if usual is None else usual
    return Saying(where, chance.randint(0, marks.all_days), kind)


def some_book(chance, marks, most, usual=None):
    return Book(marks, [some_saying(chance, marks, usual) for _ in range(chance.randint(0, most))])


def some_kept_book(chance, marks, many, usual=None):
    """A book of many sayings that some order keeps."""
    layers = [chance.randint(0, marks.days) for _ in range(marks.days)]
    order = Order.lowered(layers)
    sayings = []
    while len(sayings) < many:
        saying = some_saying(chance, marks, usual)
        if order.keeps(saying):
            sayings.append(saying)
    return Book(marks, sayings)


def all_sayings(marks, usual=None):
    """All sayings over these marks whose then lies within where."""
    found = []
    for where in range(1, marks.all_days + 1):
        for then in range(where + 1):
            if then & ~where == 0:
                found += [Saying(where, then, kind) for kind in (True, False) if usual in (None, kind)]
    return found


def mixed_books(chance, many, most=6):
    """Books of "usually" sayings with one more each, of which many are yielded."""
    for _ in range(many):
        marks = chance.choice((ONE, TWO, TWO, THREE, FOUR))
        book = some_book(chance, marks, most, usual=True)
        saying = some_saying(chance, marks, usual=True)
        chosen = [own for own in book if chance.random() < 0.6]
        if chosen and chance.random() < 0.6:
            where = broken = 0
            for own in chosen:
                where |= own.where
                broken |= own.broken
            saying = Saying(where, where & ~broken | chance.randint(0, marks.all_days))
        yield book, saying


def plain_doubt(numbers, saying):
    """The doubt of a saying, by the words of point 5.3."""
    where = sum(numbers[day] for day in bits(saying.where))
    return Fraction(sum(numbers[day] for day in bits(saying.broken)), where) if where else Fraction(0)


def as_ratio(number):
    return (Fraction(number).numerator, Fraction(number).denominator)


def seeded(number):
    return random.Random(number)
