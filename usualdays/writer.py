"""Writing a sentence that is true on given days."""

from usualdays.errors import OtherDays
from usualdays.ratios import is_whole
from usualdays.sentences import Always, Mark, Never


def sentence_of(marks, days):
    """Return a sentence that is true exactly on the days of a day set."""
    if not is_whole(days, 0, marks.all_days):
        raise OtherDays()
    return split_by(marks, 0, days, marks.all_days)


def split_by(marks, place, days, room):
    """Return a sentence over the marks from a place on that is true, within room, on just these days.

    On the days of room all marks before the place are no.
    """
    if days == 0:
        return Never()
    if days == room:
        return Always()
    name = marks.names[place]
    rest = room & ~marks.days_with(name)
    with_mark = split_by(marks, place + 1, days >> (1 << place) & rest, rest)
    without_mark = split_by(marks, place + 1, days & rest, rest)
    return by_mark(Mark(name), with_mark, without_mark)


def by_mark(mark, with_mark, without_mark):
    """Return a short sentence for: the mark and the one sentence, or not the mark and the other one."""
    if with_mark == without_mark:
        return with_mark
    if with_mark == Never():
        return both(~mark, without_mark)
    if without_mark == Never():
        return both(mark, with_mark)
    if with_mark == Always():
        return mark | without_mark
    if without_mark == Always():
        return ~mark | with_mark
    return mark & with_mark | ~mark & without_mark


def both(literal, sentence):
    """Return a sentence for both; where the second one is always true, the first one alone."""
    return literal if sentence == Always() else literal & sentence
