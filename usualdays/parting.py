"""Parting: whether the merges of all orders of two watchers keep a saying."""

from usualdays.checks import check_days
from usualdays.daysets import days_in, set_of
from usualdays.errors import OtherDays
from usualdays.lifting import Stuck, lift
from usualdays.merges import check_way, merge_orders
from usualdays.orders import Order
from usualdays.sayings import saying_with


class Parting:
    """An order of each watcher's book; their merge does not keep the saying."""

    def __init__(self, one, other):
        self.one = one
        self.other = other


class Side:
    """What one of two orders is to keep, and how far above a day it counts a day as lifted."""

    def __init__(self, book, sayings, step):
        self.book = book
        self.sayings = sayings
        self.step = step


def parting_of(watchers, way, saying):
    """Return a Parting, or None if the merges of all orders of the wide books keep a saying."""
    check_days(watchers.marks, [saying])
    check_way(way)
    for day in days_in(saying.high):
        found = parting_at(watchers, way, saying, day)
        if found is not None:
            return found
    return None


def parting_at(watchers, way, saying, day):
    """Return a Parting whose merge breaks a saying by this high day, or None.

    The merge breaks it so if all low days lie at least 1 - step above the high day.
    """
    one = watchers.wide_one
    other = watchers.wide_other
    apart = 1 - saying.step
    if way == "first":
        return parting_first(one, other, day, saying.low, apart)
    if way == "higher":
        return parting_higher(one, other, day, saying.low, apart)
    found = parting_lower(one, other, day, saying.low, apart)
    if found is not None:
        return found
    turned = parting_lower(other, one, day, saying.low, apart)
    return None if turned is None else Parting(turned.other, turned.one)


def above(day, days, many):
    """Return the saying that all of some days lie at least many layers, 0 or 1, above a day."""
    return saying_with(1 << day, days, many == 1)


def at_bottom(marks, day):
    """Return the saying that a day has layer 0."""
    return above(day, marks.all_days & ~(1 << day), 0)


def parting_first(one, other, day, low, apart):
    """Return a Parting for merging by the first order, and by the second one where the first is level."""
    return shared_out(Side(one, [above(day, low, 0)], 1), Side(other, [], apart), day, low)


def parting_higher(one, other, day, low, apart):
    """Return a Parting for merging by the greater layer."""
    for mine, yours in sides_higher(one, other, day, apart):
        found = shared_out(mine, yours, day, low)
        if found is not None:
            return level_at(day, found)
    return None


def sides_higher(one, other, day, apart):
    """Return the pairs of sides between which the low days may be shared out."""
    if apart == 1:
        return [(Side(one, [], 1), Side(other, [], 1))]
    bottom = at_bottom(one.marks, day)
    lifted = bottom.contrary()
    # With the day at the bottom of both orders, the merge has all others at or above it.
    return [(Side(one, [bottom], 0), Side(other, [bottom], 0)),
            (Side(one, [bottom], 1), Side(other, [], 0)),
            (Side(one, [], 0), Side(other, [bottom], 1)),
            (Side(one, [lifted], 0), Side(other, [lifted], 0))]


def parting_lower(one, other, day, low, apart):
    """Return a Parting for merging by the lesser layer, in which the first order has the day low."""
    if apart == 0:
        found = shared_out(Side(one, [at_bottom(one.marks, day)], 0), Side(other, [], 0), day, 0)
        if found is not None:
            return found
    off_bottom = saying_with(other.marks.all_days & ~low, low, True)
    found = shared_out(Side(one, [above(day, low, apart)], 0), Side(other, [off_bottom], 0), day, 0)
    if found is None:
        return None
    return Parting(found.one, times(found.other, max(found.one.layers) + 1))


def shared_out(one, other, day, low, mine=0, yours=0):
    """Return a Parting that shares out the low days: each is lifted above the day in the one or the other order.

    The days in mine are to be lifted in the first order, those in yours in the second one. The least
    orders show which days need a choice.
    """
    first = lift_side(one, day, mine)
    second = lift_side(other, day, yours)
    if isinstance(first, Stuck) or isinstance(second, Stuck):
        return None
    left = low & ~lifted_days(one, first.order, day) & ~lifted_days(other, second.order, day)
    if left == 0:
        return Parting(first.order, second.order)
    chosen = left & -left
    found = shared_out(one, other, day, low, mine | chosen, yours)
    return shared_out(one, other, day, low, mine, yours | chosen) if found is None else found


def lift_side(side, day, days):
    """Return what lift returns for a side in whose order some days are lifted above the day."""
    sayings = side.sayings + [above(day, days, side.step)]
    return lift(side.book, *sayings)


def lifted_days(side, order, day):
    """Return the days that lie so far above the day in an order that the side counts them as lifted."""
    return set_of([other for other, layer in enumerate(order.layers) if layer >= order.layers[day] + side.step])


def level_at(day, found):
    """Return a Parting of orders that sort alike with those found, in which the day lies as in the merge.

    Where both have it above 0, it gets the same layer in both; where one has it at 0, all days above it
    in that order lie above it in the other one, too.
    """
    mine = found.one.layers[day]
    yours = found.other.layers[day]
    if mine > 0 and yours > 0:
        return Parting(times(found.one, yours), times(found.other, mine))
    return Parting(times(found.one, yours + 1), times(found.other, mine + 1))


def times(order, many):
    """Return an order with all layers multiplied."""
    return Order([layer * many for layer in order.layers])


def parting_fault(watchers, way, saying, result):
    """Return None if a Parting is right, otherwise a word."""
    check_days(watchers.marks, [saying])
    for order in (result.one, result.other):
        if len(order) != watchers.marks.days:
            raise OtherDays()
    check_way(way)
    if not result.one.keeps_all(watchers.wide_one):
        return "one"
    if not result.other.keeps_all(watchers.wide_other):
        return "other"
    return "kept" if merge_orders(way, result.one, result.other).keeps(saying) else None
