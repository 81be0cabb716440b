"""Books: short sequences of sayings over the same marks."""

from usualdays.daysets import within
from usualdays.errors import BadBook, BadLot, NoSaying, OtherDays
from usualdays.marks import Marks
from usualdays.ratios import is_whole
from usualdays.sayings import Saying

MOST_SAYINGS = 12


def has_days(marks, saying):
    """Tell whether all days of a saying are days of the marks."""
    return within(saying.where | saying.then, marks.all_days)


def check_book(marks, sayings):
    """Raise BadBook unless these make a book."""
    if not isinstance(marks, Marks):
        raise BadBook("marks", None)
    if not isinstance(sayings, (list, tuple)) or len(sayings) > MOST_SAYINGS:
        raise BadBook("count", None)
    for number, saying in enumerate(sayings):
        if not isinstance(saying, Saying):
            raise BadBook("saying", number)
        if not has_days(marks, saying):
            raise BadBook("days", number)


def is_lot(thing, many):
    """Tell whether a thing is a list or tuple of numbers below many, ascending, each once."""
    if not isinstance(thing, (list, tuple)):
        return False
    least = 0
    for number in thing:
        if not is_whole(number, least, many - 1):
            return False
        least = number + 1
    return True


class Book:
    """Up to twelve sayings over the same marks, numbered from 0."""

    def __init__(self, marks, sayings):
        check_book(marks, sayings)
        self.marks = marks
        self.sayings = tuple(sayings)

    @property
    def first_need_not(self):
        """The number of the first "need not" saying, or None."""
        for number, saying in enumerate(self.sayings):
            if not saying.usual:
                return number
        return None

    def with_saying(self, saying):
        """Return the book with one more saying at its end."""
        return Book(self.marks, self.sayings + (saying,))

    def only(self, lot):
        """Return the book of the sayings of a lot."""
        self._check_lot(lot)
        return Book(self.marks, [self.sayings[number] for number in lot])

    def without(self, lot):
        """Return the book of the sayings that are not in a lot."""
        self._check_lot(lot)
        return Book(self.marks, [saying for number, saying in enumerate(self.sayings) if number not in lot])

    def _check_lot(self, lot):
        if not is_lot(lot, len(self.sayings)):
            raise BadLot()

    def __getitem__(self, number):
        if not is_whole(number, 0, len(self.sayings) - 1):
            raise NoSaying(number)
        return self.sayings[number]

    def __len__(self):
        return len(self.sayings)

    def __iter__(self):
        return iter(self.sayings)

    def __add__(self, other):
        if self.marks != other.marks:
            raise OtherDays()
        return Book(self.marks, self.sayings + other.sayings)

    def __eq__(self, other):
        return isinstance(other, Book) and self.marks == other.marks and self.sayings == other.sayings
