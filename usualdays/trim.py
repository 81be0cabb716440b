"""Trimming: sayings of as few days as the same orders need."""

from usualdays.books import Book, is_lot
from usualdays.daysets import days_in, within
from usualdays.sayings import saying_with
from usualdays.told import tells, tells_all


class Trimmed:
    """The book of fewer days, and the number in the given book that each of its sayings comes from."""

    def __init__(self, book, numbers):
        self.book = book
        self.numbers = numbers


def trim(book):
    """Return the Trimmed of a book."""
    lows = [saying.low for saying in book]
    highs = [saying.high for saying in book]
    days_were_dropped = True
    while days_were_dropped:
        fewer_lows = trimmed_lows(book, lows, highs)
        fewer_highs = trimmed_highs(book, fewer_lows, highs)
        days_were_dropped = fewer_lows != lows or fewer_highs != highs
        lows = fewer_lows
        highs = fewer_highs
    return Trimmed(book_with(book, lows, highs), tuple([number for number, high in enumerate(highs) if high]))


def book_with(book, lows, highs):
    """Return the book with these low and high days; a saying without high days drops out."""
    trios = zip(book.sayings, lows, highs)
    return Book(book.marks, [saying_with(low, high, saying.usual) for saying, low, high in trios if high])


def trimmed_lows(book, lows, highs):
    """Return the low days of all sayings without those that can be left out."""
    trios = zip(book.sayings, lows, highs)
    return [trimmed_low(book, low, high, saying.usual) if high else low for saying, low, high in trios]


def trimmed_low(book, low, high, usual):
    """Return the low days of a saying without those that can be left out, one behind the other."""
    left = low
    for day in days_in(low):
        if tells_without(book, left, high, usual, day):
            left = left & ~(1 << day)
    return left


def tells_without(book, low, high, usual, day):
    """Tell whether a book tells the saying with one low day less."""
    return tells(book, saying_with(low & ~(1 << day), high, usual))


def trimmed_highs(book, lows, highs):
    """Return the high days of all sayings without those that the rest tells."""
    left = highs
    for number in range(len(book)):
        days = days_in(highs[number])
        for day in days:
            fewer = without_day(left, number, day)
            rest = book_with(book, lows, fewer)
            if tells(rest, saying_with(lows[number], 1 << day, book[number].usual)):
                left = fewer
    return left


def without_day(day_sets, number, day):
    """Return a list of day sets in which the one with this number lacks a day."""
    return [day_set & ~(1 << day) if place == number else day_set for place, day_set in enumerate(day_sets)]


def trim_fault(book, trimmed):
    """Return None if a Trimmed is right for a book, otherwise a word."""
    new = trimmed.book
    numbers = trimmed.numbers
    if new.marks != book.marks:
        return "marks"
    if not isinstance(numbers, tuple) or not is_lot(numbers, len(book)) or len(numbers) != len(new):
        return "numbers"
    if not all([comes_from(saying, book[number]) for saying, number in zip(new.sayings, numbers)]):
        return "saying"
    if not tells_all(book, new) or not tells_all(new, book):
        return "alike"
    if has_spare_low(book, new):
        return "low"
    return "high" if has_spare_high(new) else None


def comes_from(saying, old):
    """Tell whether a saying is of the kind of an old one, with some of its days, and high ones among them."""
    if saying.usual != old.usual or saying.high == 0:
        return False
    return within(saying.low, old.low) and within(saying.high, old.high)


def has_spare_low(book, new):
    """Tell whether a low day of a saying of the new book can be left out."""
    for saying in new:
        if trimmed_low(book, saying.low, saying.high, saying.usual) != saying.low:
            return True
    return False


def has_spare_high(new):
    """Tell whether a high day of a saying of a book can be left out."""
    highs = [saying.high for saying in new]
    return trimmed_highs(new, [saying.low for saying in new], highs) != highs
