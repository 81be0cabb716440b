"""Learning: forces by which a book makes an order that keeps it."""

from usualdays.checks import check_usual
from usualdays.counting import grades_in
from usualdays.forces import force_below
from usualdays.lifting import Stuck, lift


class Learned:
    """The least forces that are steep for the grades of a book."""

    def __init__(self, forces):
        self.forces = forces


def learn(book):
    """Return Learned, or the Stuck of a book that no order keeps."""
    check_usual(book)
    found = lift(book)
    if isinstance(found, Stuck):
        return found
    grades = grades_in(found.order, book)
    forces = [0] * len(grades)
    for grade in sorted(set(grades)):
        force = 1 + force_below(grades, forces, grade)
        for number, own in enumerate(grades):
            if own == grade:
                forces[number] = force
    return Learned(tuple(forces))
