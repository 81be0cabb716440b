"""The greatest share that where can have of all weight, while its saying is as doubtful as is asked."""

from usualdays.doubts import check_asked, first_excess, is_bound, plain_doubt
from usualdays.errors import BadBounds
from usualdays.greatest import doubt_row, doubt_rows, flags, paper_fault, weights_at
from usualdays.linear import Barred, Task, barred_fault, bars_value, solve
from usualdays.ratios import compare_ratios, ratio


class GreatestShare:
    """The greatest share, weights that reach it, and multipliers that show that there is none greater."""

    def __init__(self, share, weights, multipliers):
        self.share = share
        self.weights = weights
        self.multipliers = multipliers


class NoWeights:
    """Multipliers that show that there are no such weights."""

    def __init__(self, multipliers):
        self.multipliers = multipliers


def share_task(book, bounds, saying, least):
    """Return the task that asks for the greatest share of a saying's where; its places are the days."""
    known = check_asked(book, bounds, saying)
    if not is_bound(least):
        raise BadBounds("least", None)
    top, bottom = least
    days = book.marks.days
    at_least = [-number for number in doubt_row(ratio(top, bottom), saying, days)]
    return Task(flags(saying.where, days), [1] * days, doubt_rows(book, known) + [at_least])


def greatest_share(book, bounds, saying, least):
    """Return the GreatestShare of a saying's where, or NoWeights."""
    found = solve(share_task(book, bounds, saying, least))
    if isinstance(found, Barred):
        return NoWeights(found.multipliers)
    return GreatestShare(found.value, weights_at(found.point), found.multipliers)


def share_fault(book, bounds, saying, least, answer):
    """Return None if a GreatestShare or NoWeights is right, otherwise a word."""
    task = share_task(book, bounds, saying, least)
    if isinstance(answer, NoWeights):
        return barred_fault(task, answer)
    word = paper_fault(task, answer)
    if word is not None:
        return word
    weights = answer.weights
    where = weights.of(saying.where)
    if first_excess(weights, book, bounds) is not None:
        return "bounds"
    if where > 0 and compare_ratios(plain_doubt(weights, saying), (least[0], least[1])) < 0:
        return "least"
    if compare_ratios(ratio(where, weights.total), answer.share) != 0:
        return "share"
    return None if bars_value(task, answer.share, answer.multipliers) else "bar"
