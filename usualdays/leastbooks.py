"""Least books: the least lots that tell, or lift to, the same as the whole book."""

from usualdays.checks import check_many
from usualdays.lifting import Stuck, lift
from usualdays.lots import all_lots, least_lots
from usualdays.told import tells_all

MOST_FOR_LEAST = 6


def least_books(book):
    """Return all least lots whose sayings make a book alike to the whole one."""
    check_many(len(book), MOST_FOR_LEAST)
    return least_lots([lot for lot in all_lots(len(book)) if tells_all(book.only(lot), book)])


def layers_or_none(book):
    """Return the layers of the least order of a book, or None if no order keeps it."""
    found = lift(book)
    return None if isinstance(found, Stuck) else found.order.layers


def carriers(book):
    """Return all least lots whose sayings have the same least order as the book, or no order either."""
    check_many(len(book), MOST_FOR_LEAST)
    layers = layers_or_none(book)
    return least_lots([lot for lot in all_lots(len(book)) if layers_or_none(book.only(lot)) == layers])
