"""What many functions of a book check before they begin."""

from usualdays.books import has_days
from usualdays.errors import BadDays, NeedNot, OtherDays, TooMany
from usualdays.ratios import is_whole


def check_days(marks, sayings):
    """Raise OtherDays if a saying has a day that is not a day of the marks."""
    for saying in sayings:
        if not has_days(marks, saying):
            raise OtherDays()


def check_all_usual(book, saying):
    """Raise NeedNot for a "need not" saying of the book or beside it."""
    if book.first_need_not is not None:
        raise NeedNot(book.first_need_not)
    if not saying.usual:
        raise NeedNot(None)


def check_where(marks, day_set):
    """Raise BadDays unless this is a nonempty day set of the marks."""
    if not is_whole(day_set, 1, marks.all_days):
        raise BadDays()


def check_many(count, most):
    """Raise TooMany if a count is above the most that a function takes."""
    if count > most:
        raise TooMany(count)
