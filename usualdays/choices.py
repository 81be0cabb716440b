"""Choices: what the normal days of some day sets are to be."""

from usualdays.books import Book
from usualdays.daysets import days_in, within
from usualdays.errors import BadChoice
from usualdays.lifting import lift
from usualdays.ratios import is_whole
from usualdays.sayings import HIGHEST_DAY_SET, Saying


def is_choice(thing):
    """Tell whether a thing is a pair of a day set and a nonempty day set within it."""
    if not isinstance(thing, (list, tuple)) or len(thing) != 2:
        return False
    if not all([is_whole(day_set, 1, HIGHEST_DAY_SET) for day_set in thing]):
        return False
    return within(thing[1], thing[0])


def sayings_of(many, normal):
    """Return the sayings that an order keeps exactly if its normal days of many are just these."""
    level = [Saying.of_days(many & ~(1 << day), 1 << day, False) for day in days_in(normal)]
    return [Saying(many, normal)] + level


def choice_sayings(choices):
    """Return the sayings that an order keeps exactly if it makes all choices."""
    for index, choice in enumerate(choices):
        if not is_choice(choice):
            raise BadChoice(index)
    return tuple([saying for many, normal in choices for saying in sayings_of(many, normal)])


def lift_choices(marks, choices):
    """Return what lift returns for the sayings of all choices."""
    sayings = choice_sayings(choices)
    return lift(Book(marks, []), *sayings)
