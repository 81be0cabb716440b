"""Strife: which sayings of a book no order keeps together, and which ones to withdraw."""

from usualdays.books import is_lot
from usualdays.checks import check_days, check_many
from usualdays.daysets import set_of, within
from usualdays.liftjudge import stuck_fault
from usualdays.lifting import Stuck, lift
from usualdays.lots import MOST_FOR_TELLING, all_lots
from usualdays.meeting import least_meeting


class Strife:
    """The quarrels with their stuck days, and the withdrawals with the least orders of the rest."""

    def __init__(self, quarrels, withdrawals):
        self.quarrels = quarrels
        self.withdrawals = withdrawals


def check_strife(book, further):
    """Raise the errors of strife."""
    check_days(book.marks, further)
    check_many(len(book), MOST_FOR_TELLING)


def strife(book, *further):
    """Return the Strife of a book whose further sayings are held."""
    check_strife(book, further)
    quarrels = quarrels_of(book, further)
    meeting = least_meeting([lot for lot, _ in quarrels])
    return Strife(quarrels, tuple([(lot, order_without(book, lot, further)) for lot in meeting]))


def order_without(book, lot, further):
    """Return the least order that keeps the further sayings and those of the book that are not in a lot."""
    rest = book.without(lot)
    return lift(rest, *further).order


def quarrels_of(book, further):
    """Return pairs of a least lot that no order keeps beside the further sayings, and its Stuck."""
    quarrels = []
    bits = []
    for lot in all_lots(len(book)):
        lot_bits = set_of(lot)
        if any([within(smaller, lot_bits) for smaller in bits]):
            continue
        part = book.only(lot)
        found = lift(part, *further)
        if isinstance(found, Stuck):
            quarrels.append((lot, found))
            bits.append(lot_bits)
    return tuple(quarrels)


def strife_fault(book, answer, *further):
    """Return None if a Strife is right, otherwise a word."""
    check_strife(book, further)
    quarrel_lots = [lot for lot, _ in answer.quarrels]
    withdrawal_lots = [lot for lot, _ in answer.withdrawals]
    if not are_sorted_lots(quarrel_lots, len(book)) or not are_sorted_lots(withdrawal_lots, len(book)):
        return "lots"
    for lot, stuck in answer.quarrels:
        part = book.only(lot)
        if stuck_fault(part, stuck, *further) is not None:
            return "stuck"
    for lot, order in answer.withdrawals:
        if len(order) != book.marks.days or not order.keeps_all(book.without(lot).sayings + further):
            return "order"
    if tuple(withdrawal_lots) != least_meeting(quarrel_lots):
        return "meeting"
    return "smaller" if has_smaller(quarrel_lots) else None


def are_sorted_lots(things, many):
    """Tell whether these are different lots of so many numbers, shorter ones first, those of one length as tuples."""
    for thing in things:
        if not isinstance(thing, tuple) or not is_lot(thing, many):
            return False
    keys = [(len(lot), lot) for lot in things]
    return keys == sorted(set(keys))


def has_smaller(lots):
    """Tell whether one of some different lots lies within another one."""
    bits = [set_of(lot) for lot in lots]
    return any([within(one, other) for one in bits for other in bits if one != other])
