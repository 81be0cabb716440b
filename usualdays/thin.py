"""Thin books: what is left when what the rest tells is dropped."""

from usualdays.books import is_lot
from usualdays.liftjudge import stuck_fault
from usualdays.told import tell, tells


class Thinned:
    """The numbers kept and dropped, orders that show that each kept one is needed, and why no dropped one is."""

    def __init__(self, kept, orders, dropped, stucks):
        self.kept = kept
        self.orders = orders
        self.dropped = dropped
        self.stucks = stucks


def rest_of(book, lot, number):
    """Return the book of the sayings of a lot, but for the one with this number."""
    return book.only([other for other in lot if other != number])


def needed(book):
    """Return the numbers of the sayings that the others do not tell."""
    lot = tuple(range(len(book)))
    return tuple([number for number in lot if not tells(rest_of(book, lot, number), book[number])])


def thin(book):
    """Return the Thinned of a book: from the last saying to the first, what the others left tell is dropped.

    Fewer sayings tell less. So what was kept because the others left did not tell it stays needed.
    """
    kept = tuple(range(len(book)))
    dropped = []
    for number in reversed(range(len(book))):
        if tells(rest_of(book, kept, number), book[number]):
            kept = tuple([other for other in kept if other != number])
            dropped.append(number)
    lot = tuple(sorted(dropped))
    orders = tuple([tell(rest_of(book, kept, number), book[number]).order for number in kept])
    left = book.only(kept)
    return Thinned(kept, orders, lot, tuple([tell(left, book[number]).stuck for number in lot]))


def thin_fault(book, thinned):
    """Return None if a Thinned is right for a book, otherwise a word."""
    kept = thinned.kept
    dropped = thinned.dropped
    if not are_parted(kept, dropped, len(book)):
        return "numbers"
    if len(thinned.orders) != len(kept) or len(thinned.stucks) != len(dropped):
        return "count"
    if not all([shows_needed(book, kept, number, order) for number, order in zip(kept, thinned.orders)]):
        return "order"
    left = book.only(kept)
    for number, stuck in zip(dropped, thinned.stucks):
        if stuck_fault(left, stuck, book[number].contrary()) is not None:
            return "stuck"
    return None


def are_parted(one, other, many):
    """Tell whether two things are lots that together hold each of so many numbers once."""
    for lot in (one, other):
        if not isinstance(lot, tuple) or not is_lot(lot, many):
            return False
    return sorted(one + other) == list(range(many))


def shows_needed(book, lot, number, order):
    """Tell whether an order keeps the sayings of a lot, but not the one with this number."""
    if len(order) != book.marks.days:
        return False
    return order.keeps_all(rest_of(book, lot, number)) and not order.keeps(book[number])
