"""Comparing two books: which of them tells what the other one says."""

from usualdays.errors import OtherDays
from usualdays.told import Told, tell, tell_fault


class Compared:
    """What the first book answers to the sayings of the second one, and the other way about."""

    def __init__(self, first, second):
        self.first = first
        self.second = second

    @property
    def verdict(self):
        """Which book tells more: "alike", "first", "second" or "neither"."""
        first_tells = all([isinstance(answer, Told) for answer in self.first])
        second_tells = all([isinstance(answer, Told) for answer in self.second])
        if first_tells and second_tells:
            return "alike"
        if first_tells:
            return "first"
        return "second" if second_tells else "neither"


def check_same_marks(one, two):
    """Raise OtherDays if two books are over other marks."""
    if one.marks != two.marks:
        raise OtherDays()


def compare_books(one, two):
    """Return what each of two books tells of the sayings of the other one."""
    check_same_marks(one, two)
    first = tuple([tell(one, saying) for saying in two])
    return Compared(first, tuple([tell(two, saying) for saying in one]))


def compare_fault(one, two, compared):
    """Return None if a Compared is right for two books, otherwise a word."""
    check_same_marks(one, two)
    if len(compared.first) != len(two) or len(compared.second) != len(one):
        return "count"
    if not are_told(one, two.sayings, compared.first):
        return "first"
    return None if are_told(two, one.sayings, compared.second) else "second"


def are_told(book, sayings, answers):
    """Tell whether these are right answers of a book to some sayings."""
    return all([tell_fault(book, saying, answer) is None for saying, answer in zip(sayings, answers)])
