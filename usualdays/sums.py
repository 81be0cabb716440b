"""Whether the doubt of a saying is at most the sum of the doubts of a book, for all weights."""

from usualdays.books import MOST_SAYINGS, is_lot
from usualdays.checks import check_all_usual
from usualdays.daysets import days_in
from usualdays.doubts import HIGHEST_BOTTOM, doubt_of, doubt_sum
from usualdays.errors import BadStep
from usualdays.lots import narrowed
from usualdays.ratios import compare_ratios, is_whole
from usualdays.steps import big_steps
from usualdays.verdicts import joined, sharper, verdicts_of


class Bounded:
    """A lot whose doubts alone are at least the doubt of the saying, when they are added up."""

    def __init__(self, lot):
        self.lot = lot


class Exceeds:
    """Weights under which the doubt of the saying is above the sum."""

    def __init__(self, weights):
        self.weights = weights


def sum_bound(book, saying, *, parts=2):
    """Return Bounded with a sharp lot, or Exceeds with weights.

    The wrong days of a round confirm the sayings that are dropped in it, and break none that are left.
    So weights that fall by a great step from round to round leave hardly a doubt of what was dropped.
    The open days, which break the saying and none that are left at the end, weigh least, and all
    others nothing; so no day confirms the saying.
    """
    check_all_usual(book, saying)
    if not is_whole(parts, 1, HIGHEST_BOTTOM):
        raise BadStep(parts)
    aim = verdicts_of(saying)
    lot, rounds = narrowed(book, aim)
    open_days = aim.broken & ~joined(book.only(lot)).broken
    if open_days == 0:
        return Bounded(lot)
    days = book.marks.days
    step = days * max(parts, MOST_SAYINGS + 1)
    return Exceeds(big_steps(layers_of_rounds(rounds + [open_days], days), step))


def layers_of_rounds(rounds, days):
    """Return for each day the number of the first round that has it, or None."""
    layers = [None] * days
    for number, day_set in enumerate(rounds):
        for day in days_in(day_set):
            if layers[day] is None:
                layers[day] = number
    return tuple(layers)


def sum_fault(book, saying, answer):
    """Return None if a Bounded or an Exceeds is right, otherwise a word."""
    check_all_usual(book, saying)
    if isinstance(answer, Bounded):
        if not is_lot(answer.lot, len(book)):
            return "lot"
        return None if sharper(joined(book.only(answer.lot)), verdicts_of(saying)) else "sharp"
    weights = answer.weights
    if len(weights) != book.marks.days:
        return "count"
    return None if compare_ratios(doubt_of(weights, saying), doubt_sum(weights, book)) > 0 else "sum"
