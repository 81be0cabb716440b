"""Forces: how hard each saying of a book lifts the days that break it."""

from usualdays.books import MOST_SAYINGS
from usualdays.checks import check_usual
from usualdays.errors import BadForces, BadGrades
from usualdays.news import Piece, is_force, order_of_news
from usualdays.orders import Order
from usualdays.ratios import is_whole

HIGHEST_GRADE = 1000


def check_grades(grades, least, most):
    """Raise BadGrades unless these are from least to most grades."""
    if not isinstance(grades, (list, tuple)) or not least <= len(grades) <= most:
        raise BadGrades()
    if not all([is_whole(grade, 0, HIGHEST_GRADE) for grade in grades]):
        raise BadGrades()


def are_forces(things, many):
    """Tell whether things are a list or tuple of so many forces."""
    return isinstance(things, (list, tuple)) and len(things) == many and all([is_force(thing) for thing in things])


def check_forces(forces, many):
    """Raise BadForces unless these are so many forces."""
    if not are_forces(forces, many):
        raise BadForces()


def force_below(grades, forces, grade):
    """Return the sum of the forces of all sayings of lower grade."""
    return sum([force for lower, force in zip(grades, forces) if lower < grade])


def steep(grades, forces):
    """Tell whether each of some forces is greater than those of all sayings of lower grade together."""
    return all([force > force_below(grades, forces, grade) for grade, force in zip(grades, forces)])


def is_steep(grades, forces):
    """Tell whether forces are steep for grades."""
    check_grades(grades, 0, MOST_SAYINGS)
    check_forces(forces, len(grades))
    return steep(grades, forces)


def forced_order(book, forces):
    """Return the order of the news, from the flat order, of the sayings of a book with these forces."""
    check_usual(book)
    check_forces(forces, len(book))
    pieces = [Piece(saying, force) for saying, force in zip(book.sayings, forces)]
    return order_of_news(Order.flat(book.marks.days), pieces)
