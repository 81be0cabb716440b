"""Lots that meet every lot of some."""

from usualdays.daysets import set_of
from usualdays.lots import all_lots, least_lots


def least_meeting(lots):
    """Return all least lots that meet every one of some lots."""
    numbers = sorted({number for lot in lots for number in lot})
    wanted = least_sets(lots)
    tried = [tuple([numbers[place] for place in places]) for places in all_lots(len(numbers))]
    return least_lots([lot for lot in tried if meets_all(set_of(lot), wanted)])


def least_sets(lots):
    """Return the sets of numbers, as whole numbers, of the least ones of some lots; who meets them meets all."""
    shorter_first = sorted([(len(lot), tuple(lot)) for lot in lots])
    return [set_of(lot) for lot in least_lots([lot for _, lot in shorter_first])]


def meets_all(numbers, wanted):
    """Tell whether a set of numbers shares one with each of the wanted sets."""
    for other in wanted:
        if numbers & other == 0:
            return False
    return True
