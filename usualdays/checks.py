"""What many functions of a book check before they begin."""

from usualdays.errors import BadDays, NeedNot, OtherDays, TooMany
from usualdays.ratios import is_whole


def check_fitting(days, sayings):
    """Raise OtherDays if a saying has a day that is not one of so many days."""
    for saying in sayings:
        if (saying.where | saying.then) >> days:
            raise OtherDays()


def check_days(marks, sayings):
    """Raise OtherDays if a saying has a day that is not a day of the marks."""
    check_fitting(marks.days, sayings)


def check_usual(book):
    """Raise NeedNot with the number of the first "need not" saying of a book."""
    if book.first_need_not is not None:
        raise NeedNot(book.first_need_not)


def check_all_usual(book, saying):
    """Raise the errors of a function that takes "usually" alone, in the book and beside it."""
    check_days(book.marks, [saying])
    check_usual(book)
    if not saying.usual:
        raise NeedNot(None)


def check_where(marks, day_set):
    """Raise BadDays unless this is a nonempty day set of the marks."""
    if not is_whole(day_set, 1, marks.all_days):
        raise BadDays()


def check_many(count, most):
    """Raise TooMany if a count is above the most that a function takes."""
    if count > most:
        raise TooMany(count)
