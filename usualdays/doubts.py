"""Doubts: how much of what a saying speaks of breaks it, under weights; and bounds of doubts."""

from usualdays.checks import check_all_usual, check_fitting, check_usual
from usualdays.errors import BadBounds, NeedNot, OtherDays
from usualdays.ratios import compare_ratios, is_whole, ratio, ratio_sum

HIGHEST_BOTTOM = 1000000


def doubt_of(weights, saying):
    """Return the doubt of a "usually" saying under weights."""
    check_fitting(len(weights), [saying])
    if not saying.usual:
        raise NeedNot(None)
    return plain_doubt(weights, saying)


def plain_doubt(weights, saying):
    """Return the share of the breaking days in the weight of where, or zero if where weighs 0."""
    where = weights.of(saying.where)
    return ratio(weights.of(saying.broken), where) if where > 0 else (0, 1)


def check_weighed(weights, book):
    """Raise OtherDays if weights are for another number of days than a book."""
    if len(weights) != book.marks.days:
        raise OtherDays()


def doubts_of(weights, book):
    """Return the doubts of the sayings of a "usually" book."""
    check_weighed(weights, book)
    check_usual(book)
    return tuple([plain_doubt(weights, saying) for saying in book])


def doubt_sum(weights, book):
    """Return the sum of the doubts of the sayings of a "usually" book."""
    total = (0, 1)
    for doubt in doubts_of(weights, book):
        total = ratio_sum(total, doubt)
    return total


def is_bound(thing):
    """Tell whether a thing is a bound: a ratio from 0 to 1, perhaps not in lowest terms."""
    if not isinstance(thing, (list, tuple)) or len(thing) != 2:
        return False
    top, bottom = thing
    return is_whole(bottom, 1, HIGHEST_BOTTOM) and is_whole(top, 0, bottom)


def check_bounds(book, bounds):
    """Return the bounds of a "usually" book as ratios."""
    check_usual(book)
    if not isinstance(bounds, (list, tuple)) or len(bounds) != len(book):
        raise BadBounds("count", None)
    for number, bound in enumerate(bounds):
        if not is_bound(bound):
            raise BadBounds("bound", number)
    return tuple([ratio(top, bottom) for top, bottom in bounds])


def check_asked(book, bounds, saying):
    """Raise the errors of a function of a book, bounds and a saying; return the bounds as ratios."""
    check_all_usual(book, saying)
    return check_bounds(book, bounds)


def first_excess(weights, book, bounds):
    """Return the number of the first saying whose doubt is above its bound, or None."""
    check_weighed(weights, book)
    known = check_bounds(book, bounds)
    for number, saying in enumerate(book):
        if compare_ratios(plain_doubt(weights, saying), known[number]) > 0:
            return number
    return None
