"""Two watchers, each with a book over marks of their own."""

from usualdays.books import MOST_SAYINGS, Book
from usualdays.errors import BadWatchers, NoSaying
from usualdays.looks import widened_book
from usualdays.marks import MOST_MARKS, Marks
from usualdays.ratios import is_whole
from usualdays.told import tells


def names_together(one, other):
    """Return the names of the first marks, and behind them those that only the other ones have."""
    return one.names + tuple([name for name in other.names if name not in one.names])


def check_watchers(one, other):
    """Raise BadWatchers unless these books make two watchers."""
    if not isinstance(one, Book):
        raise BadWatchers("one")
    if not isinstance(other, Book):
        raise BadWatchers("other")
    if len(names_together(one.marks, other.marks)) > MOST_MARKS:
        raise BadWatchers("marks")
    if len(one) + len(other) > MOST_SAYINGS:
        raise BadWatchers("many")


class Watchers:
    """Two books, and what they are over the marks of both."""

    def __init__(self, one, other):
        check_watchers(one, other)
        self.one = one
        self.other = other
        self.marks = Marks(names_together(one.marks, other.marks))
        self.shared = tuple([name for name in one.marks.names if name in other.marks.names])
        self.wide_one = widened_book(one, self.marks)
        self.wide_other = widened_book(other, self.marks)
        self.together = self.wide_one + self.wide_other

    def owner(self, number):
        """Return whose saying of the book of both this is: "one" or "other"."""
        if not is_whole(number, 0, len(self.together) - 1):
            raise NoSaying(number)
        return "one" if number < len(self.one) else "other"


def standing_of(watchers, saying):
    """Return who tells a saying: "both", "one", "other", "together" or "none"."""
    one_tells = tells(watchers.wide_one, saying)
    other_tells = tells(watchers.wide_other, saying)
    if one_tells and other_tells:
        return "both"
    if one_tells:
        return "one"
    if other_tells:
        return "other"
    return "together" if tells(watchers.together, saying) else "none"
