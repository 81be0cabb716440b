"""Books of an order: those that lift to it, and those that only orders like it keep."""

from usualdays.books import MOST_SAYINGS, Book
from usualdays.checks import check_many
from usualdays.daysets import days_in
from usualdays.errors import OtherDays
from usualdays.lifting import Stuck, lift
from usualdays.sayings import Saying


class Pinned:
    """All orders that keep the book sort alike with this one; for each saying of its pin, why the book tells it."""

    def __init__(self, order, stucks):
        self.order = order
        self.stucks = stucks


class Unpinned:
    """The least order of the book, and another one that keeps it and sorts otherwise."""

    def __init__(self, order, other):
        self.order = order
        self.other = other


def ladder_sayings(order):
    """Return for each level but the highest that it lies below all days above it."""
    levels = order.levels
    return [Saying(sum(levels[place:]), levels[place]) for place in range(len(levels) - 1)]


def pin_sayings(order):
    """Return the sayings of the ladder, and those that keep each level together."""
    rings = [saying for level in order.levels for saying in ring_sayings(days_in(level))]
    return ladder_sayings(order) + rings


def ring_sayings(days):
    """Return that of some days none lies below the one ahead of it, nor the first one below the last one."""
    if len(days) < 2:
        return []
    behind = days[1:] + days[:1]
    return [Saying.of_days(1 << later, 1 << day, False) for day, later in zip(days, behind)]


def check_length(marks, order):
    """Raise OtherDays unless an order is one of the days of the marks."""
    if len(order) != marks.days:
        raise OtherDays()


def ladder(marks, order):
    """Return a shortest book whose least order is this one, closed."""
    check_length(marks, order)
    sayings = ladder_sayings(order)
    check_many(len(sayings), MOST_SAYINGS)
    return Book(marks, sayings)


def pin(marks, order):
    """Return a shortest book that exactly the orders that sort alike with this one keep."""
    check_length(marks, order)
    sayings = pin_sayings(order)
    check_many(len(sayings), MOST_SAYINGS)
    return Book(marks, sayings)


def pinned(book):
    """Return Pinned if all orders that keep a book sort alike, Unpinned if not, Stuck if there is none."""
    least = lift(book)
    if isinstance(least, Stuck):
        return least
    stucks = []
    for saying in pin_sayings(least.order):
        found = lift(book, saying.contrary())
        if not isinstance(found, Stuck):
            return Unpinned(least.order, found.order)
        stucks.append(found)
    return Pinned(least.order, tuple(stucks))
