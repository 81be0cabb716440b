"""The greatest doubt that a saying can have under all weights that meet the bounds of a book."""

from math import lcm

from usualdays.doubts import check_asked, first_excess, plain_doubt
from usualdays.linear import Barred, Task, barred_fault, bars_value, has_negative, solve
from usualdays.ratios import compare_ratios, ratio_product, ratio_sum
from usualdays.weights import Weights


class GreatestDoubt:
    """The greatest doubt, weights that reach it, and multipliers that show that there is none greater."""

    def __init__(self, doubt, weights, multipliers):
        self.doubt = doubt
        self.weights = weights
        self.multipliers = multipliers


class Weightless:
    """Multipliers that show that where weighs 0 under all weights that meet the bounds."""

    def __init__(self, multipliers):
        self.multipliers = multipliers


def flags(day_set, days):
    """Return for each day 1 if it is in a day set, and 0 otherwise."""
    return [day_set >> day & 1 for day in range(days)]


def doubt_row(bound, saying, days):
    """Return the row that is at most 0 for weights under which the doubt of a saying is at most a bound."""
    top, bottom = bound
    where = flags(saying.where, days)
    broken = flags(saying.broken, days)
    return [bottom * breaks - top * speaks for breaks, speaks in zip(broken, where)]


def doubt_rows(book, known):
    """Return the row of each saying of a book, for bounds that are ratios."""
    return [doubt_row(bound, saying, book.marks.days) for bound, saying in zip(known, book.sayings)]


def doubt_task(book, bounds, saying):
    """Return the task that asks for the greatest doubt of a saying; its places are the days."""
    known = check_asked(book, bounds, saying)
    days = book.marks.days
    return Task(flags(saying.broken, days), flags(saying.where, days), doubt_rows(book, known))


def weights_at(point):
    """Return the least weights in the ratio of the numbers of a point."""
    shared = 1
    for _, bottom in point:
        shared = lcm(shared, bottom)
    return Weights([top * (shared // bottom) for top, bottom in point]).lowest()


def greatest_doubt(book, bounds, saying):
    """Return the GreatestDoubt of a saying, or Weightless."""
    found = solve(doubt_task(book, bounds, saying))
    if isinstance(found, Barred):
        return Weightless(found.multipliers)
    return GreatestDoubt(found.value, weights_at(found.point), found.multipliers)


def doubt_range(book, bounds, saying):
    """Return the least and the greatest doubt of a saying, or None if there are no such weights."""
    greatest = greatest_doubt(book, bounds, saying)
    if isinstance(greatest, Weightless):
        return None
    trust = greatest_doubt(book, bounds, saying.flipped()).doubt
    least = ratio_sum((1, 1), ratio_product((-1, 1), trust))
    return (least, greatest.doubt)


def paper_fault(task, answer):
    """Return "count" or "sign" for an answer of weights and multipliers, or None."""
    if len(answer.weights) != len(task.goal) or len(answer.multipliers) != len(task.rows):
        return "count"
    if has_negative(answer.multipliers):
        return "sign"
    return None


def greatest_fault(book, bounds, saying, answer):
    """Return None if a GreatestDoubt or a Weightless is right, otherwise a word."""
    task = doubt_task(book, bounds, saying)
    if isinstance(answer, Weightless):
        return barred_fault(task, answer)
    word = paper_fault(task, answer)
    if word is not None:
        return word
    if answer.weights.of(saying.where) == 0:
        return "where"
    if first_excess(answer.weights, book, bounds) is not None:
        return "bounds"
    if compare_ratios(plain_doubt(answer.weights, saying), answer.doubt) != 0:
        return "doubt"
    return None if bars_value(task, answer.doubt, answer.multipliers) else "bar"


def lot_of(answer):
    """Return the lot of the numbers whose multiplier is above 0."""
    zero = (0, 1)
    return tuple([number for number, part in enumerate(answer.multipliers) if compare_ratios(part, zero) > 0])
