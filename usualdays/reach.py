"""Reach: whether any further sayings at all make a book serve."""

from usualdays.checks import check_days
from usualdays.lifting import Stuck, lift
from usualdays.shelves import check_few


class Reachable:
    """Orders that show that the wishes can be had without the bars."""

    def __init__(self, orders):
        self.orders = orders


class Unreachable:
    """Why the wishes cannot be had; the index of the bar that stands against them, or None."""

    def __init__(self, index, stuck):
        self.index = index
        self.stuck = stuck


def reachable(book, wishes, bars, *, for_all=False):
    """Return Reachable if some further sayings make a book serve, otherwise Unreachable."""
    check_few(wishes, "wishes")
    check_few(bars, "bars")
    check_days(book.marks, [*wishes, *bars])
    contraries = [bar.contrary() for bar in bars]
    if for_all:
        return reachable_for_all(book, wishes, contraries)
    sayings = [*wishes, *contraries]
    found = lift(book, *sayings)
    if isinstance(found, Stuck):
        return Unreachable(None, found)
    return Reachable((found.order,))


def reachable_for_all(book, wishes, contraries):
    """Return what reachable returns if all orders are to keep the wishes, and some none of the bars."""
    least = lift(book, *wishes)
    if isinstance(least, Stuck):
        return Unreachable(None, least)
    orders = []
    for index, contrary in enumerate(contraries):
        found = lift(book, *wishes, contrary)
        if isinstance(found, Stuck):
            return Unreachable(index, found)
        orders.append(found.order)
    return Reachable(tuple(orders) if contraries else (least.order,))
