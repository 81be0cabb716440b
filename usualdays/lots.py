"""Lots of a book: which of its sayings suffice."""

from usualdays.checks import check_all_usual, check_days, check_many
from usualdays.daysets import set_of, within
from usualdays.told import tells
from usualdays.verdicts import Verdicts, joined, sharper, verdicts_of

MOST_FOR_TELLING = 8


def all_lots(many):
    """Return all lots of so many numbers, shorter ones first, those of one length as tuples."""
    lots = [()]
    longest = [()]
    for _ in range(many):
        longest = [lot + (number,) for lot in longest for number in range(first_behind(lot), many)]
        lots.extend(longest)
    return lots


def first_behind(lot):
    """Return the least number that may stand behind a lot."""
    return lot[-1] + 1 if lot else 0


def least_lots(lots):
    """Return those of some lots, shorter ones first, within which no other of them lies."""
    least = []
    bits = []
    for lot in lots:
        lot_bits = set_of(lot)
        if not any([within(smaller, lot_bits) for smaller in bits]):
            least.append(lot)
            bits.append(lot_bits)
    return tuple(least)


def all_sharp_lots(book, saying):
    """Return all sharp lots, in the order of all_lots."""
    aim = verdicts_of(saying)
    single = [verdicts_of(own) for own in book]
    verdicts = {(): Verdicts.none()}
    sharp = []
    for lot in all_lots(len(book)):
        if lot:
            verdicts[lot] = verdicts[lot[:-1]] + single[lot[-1]]
        if sharper(verdicts[lot], aim):
            sharp.append(lot)
    return sharp


def sharp_lot(book, saying):
    """Return the first sharp lot for a saying, or None."""
    check_all_usual(book, saying)
    sharp = all_sharp_lots(book, saying)
    return sharp[0] if sharp else None


def sharp_lots(book, saying):
    """Return all least sharp lots for a saying."""
    check_all_usual(book, saying)
    return least_lots(all_sharp_lots(book, saying))


def narrowed(book, aim):
    """Return the lot of all sayings that may be in a sharp lot, and the wrong days, round by round.

    A saying that confirms a wrong day, one that should not be confirmed, is in no sharp lot, once no
    saying that is left breaks this day. So such sayings are dropped until there is none.
    """
    lot = tuple(range(len(book)))
    rounds = []
    verdicts = joined(book)
    while not within(verdicts.confirm, aim.confirm):
        wrong = verdicts.confirm & ~aim.confirm
        rounds.append(wrong)
        lot = tuple([number for number in lot if book[number].confirm & wrong == 0])
        verdicts = joined(book.only(lot))
    return lot, rounds


def widest_lot(book, saying):
    """Return the sharp lot that holds every sharp lot, or None."""
    check_all_usual(book, saying)
    aim = verdicts_of(saying)
    lot, _ = narrowed(book, aim)
    return lot if sharper(joined(book.only(lot)), aim) else None


def telling_lots(book, saying):
    """Return all least lots that tell a saying."""
    check_days(book.marks, [saying])
    check_many(len(book), MOST_FOR_TELLING)
    telling = []
    bits = []
    for lot in all_lots(len(book)):
        lot_bits = set_of(lot)
        known = any([within(smaller, lot_bits) for smaller in bits])
        if not known and tells(book.only(lot), saying):
            telling.append(lot)
            bits.append(lot_bits)
    return tuple(telling)


def silent_lots(book, saying):
    """Return all greatest lots that do not tell a saying, longer ones first."""
    check_days(book.marks, [saying])
    check_many(len(book), MOST_FOR_TELLING)
    silent = []
    bits = []
    for lot in longer_first(all_lots(len(book))):
        lot_bits = set_of(lot)
        known = any([within(lot_bits, greater) for greater in bits])
        if not known and not tells(book.only(lot), saying):
            silent.append(lot)
            bits.append(lot_bits)
    return tuple(silent)


def longer_first(lots):
    """Return lots sorted by falling length, those of one length as they were."""
    longest = max([len(lot) for lot in lots])
    return [lot for length in reversed(range(longest + 1)) for lot in lots if len(lot) == length]
