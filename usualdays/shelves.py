"""Shelves: sayings that may be put into a book, and which of them serve some wishes."""

from usualdays.books import is_lot
from usualdays.checks import check_days
from usualdays.daysets import set_of, within
from usualdays.errors import BadLot, BadShelf
from usualdays.lifting import Lifted, Stuck, lift
from usualdays.lots import all_lots, least_lots
from usualdays.sayings import Saying

MOST_ON_SHELF = 6


class Failure:
    """Why a lot does not serve: a word, which wish or bar it is about, and an order or stuck days."""

    def __init__(self, what, index, paper):
        self.what = what
        self.index = index
        self.paper = paper


class Serving:
    """A lot that serves while none of its parts does, and why they do not."""

    def __init__(self, lot, failures):
        self.lot = lot
        self.failures = failures


def check_few(things, what):
    """Raise BadShelf with a word unless these are few sayings."""
    if not isinstance(things, (list, tuple)) or len(things) > MOST_ON_SHELF:
        raise BadShelf(what)
    if not all([isinstance(thing, Saying) for thing in things]):
        raise BadShelf(what)


def check_shelf(marks, shelf, wishes, bars):
    """Raise the errors of a shelf, wishes and bars."""
    check_few(shelf, "shelf")
    check_few(wishes, "wishes")
    check_few(bars, "bars")
    check_days(marks, [*shelf, *wishes, *bars])


def failing(book, shelf, lot, wishes, bars, *, for_all=False):
    """Return None if a lot of the shelf serves, otherwise a Failure."""
    check_shelf(book.marks, shelf, wishes, bars)
    if not is_lot(lot, len(shelf)):
        raise BadLot()
    return failure_of(book, shelf, lot, wishes, bars, for_all)


def failure_of(book, shelf, lot, wishes, bars, for_all):
    """Return what failing returns, without its checks."""
    sayings = [shelf[index] for index in lot]
    found = lift(book, *sayings)
    if isinstance(found, Stuck):
        return Failure("stuck", None, found)
    if for_all:
        return failure_in_some(book, sayings, wishes, bars)
    return failure_in(found.order, wishes, bars)


def failure_in(order, wishes, bars):
    """Return the Failure of the least order, or None."""
    for index, wish in enumerate(wishes):
        if not order.keeps(wish):
            return Failure("wish", index, order)
    for index, bar in enumerate(bars):
        if order.keeps(bar):
            return Failure("bar", index, order)
    return None


def failure_in_some(book, sayings, wishes, bars):
    """Return the Failure of all orders that keep the book and the sayings, or None."""
    for index, wish in enumerate(wishes):
        found = lift_against(book, sayings, wish)
        if isinstance(found, Lifted):
            return Failure("wish", index, found.order)
    for index, bar in enumerate(bars):
        found = lift_against(book, sayings, bar)
        if isinstance(found, Stuck):
            return Failure("bar", index, found)
    return None


def lift_against(book, sayings, saying):
    """Return what lift returns for a book, some sayings, and the contrary of one more."""
    contrary = saying.contrary()
    return lift(book, *sayings, contrary)


def serving_lots(book, shelf, wishes, bars, *, for_all=False):
    """Yield all lots of the shelf that serve, shorter ones first."""
    check_shelf(book.marks, shelf, wishes, bars)
    for lot in all_lots(len(shelf)):
        if failure_of(book, shelf, lot, wishes, bars, for_all) is None:
            yield lot


def servings(book, shelf, wishes, bars, *, for_all=False):
    """Return a Serving for each serving lot of which no smaller part serves."""
    check_shelf(book.marks, shelf, wishes, bars)
    lots = all_lots(len(shelf))
    failures = {lot: failure_of(book, shelf, lot, wishes, bars, for_all) for lot in lots}
    least = least_lots([lot for lot in lots if failures[lot] is None])
    return tuple([Serving(lot, tuple([(part, failures[part]) for part in smaller_parts(lot, lots)])) for lot in least])


def smaller_parts(lot, lots):
    """Return those of some lots that lie within a lot, but for itself."""
    return [part for part in lots if part != lot and within(set_of(part), set_of(lot))]
