"""Looks: what is left of a day if only some of its marks are looked at."""

from usualdays.books import Book
from usualdays.daysets import set_of
from usualdays.errors import NoDay, OtherDays
from usualdays.ratios import is_whole
from usualdays.sayings import Saying


def sets_with(marks, names):
    """Return for each name the days on which its mark is yes."""
    return [marks.days_with(name) for name in names]


def looked_at(day, day_sets):
    """Return the day whose bits say in which of some day sets a day is."""
    return set_of([place for place, day_set in enumerate(day_sets) if day_set >> day & 1])


def look_day(marks, day, names):
    """Return the shared day that a day looks like."""
    day_sets = sets_with(marks, names)
    if not is_whole(day, 0, marks.days - 1):
        raise NoDay(day)
    return looked_at(day, day_sets)


def looks_of(marks, names):
    """Return for each day of the marks the shared day that it looks like."""
    day_sets = sets_with(marks, names)
    return [looked_at(day, day_sets) for day in range(marks.days)]


def look_of(marks, layers, names):
    """Return for each shared day the least layer of the days that look like it."""
    looks = looks_of(marks, names)
    if len(layers) != marks.days:
        raise OtherDays()
    shown = [[layer for layer, look in zip(layers, looks) if look == day] for day in range(1 << len(names))]
    return tuple([min(alike) for alike in shown])


def spread_over(marks, layers, names):
    """Return for each day of the marks the layer of the shared day that it looks like."""
    looks = looks_of(marks, names)
    if len(layers) != 1 << len(names):
        raise OtherDays()
    return tuple([layers[look] for look in looks])


def widened_days(marks, day_set, more):
    """Return the days of more marks that look like a day of a day set."""
    looks = looks_of(more, marks.names)
    return set_of([day for day, look in enumerate(looks) if day_set >> look & 1])


def widened_book(book, more):
    """Return the book of the same sayings over more marks."""
    # An empty book needs the marks, too.
    looks_of(more, book.marks.names)
    return Book(more, [widened(book.marks, saying, more) for saying in book])


def widened(marks, saying, more):
    """Return the saying about the days of more marks that look like its own."""
    where = widened_days(marks, saying.where, more)
    return Saying(where, widened_days(marks, saying.then, more), saying.usual)
