"""Grades: how normal a day can be that breaks a saying; and the order that counts what days break."""

from usualdays.checks import check_usual
from usualdays.errors import NoDay
from usualdays.expecting import least_order
from usualdays.orders import Order
from usualdays.ratios import is_whole


def grades_in(order, book):
    """Return the least layers in an order of the low days of the sayings of a book that it keeps."""
    return tuple([order.least(saying.low) for saying in book])


def grades_of(book):
    """Return the grades of the sayings of a "usually" book."""
    check_usual(book)
    return grades_in(least_order(book), book)


def counts_on(book, grades, day):
    """Return how many sayings of each grade a day breaks, from the greatest grade down."""
    counts = [0] * (max(grades, default=-1) + 1)
    for saying, grade in zip(book.sayings, grades):
        if saying.broken >> day & 1:
            counts[grade] += 1
    return tuple(counts[::-1])


def counts_of(book, day):
    """Return how many sayings of each grade a day breaks, from the greatest grade down."""
    grades = grades_of(book)
    if not is_whole(day, 0, book.marks.days - 1):
        raise NoDay(day)
    return counts_on(book, grades, day)


def counting_order(book):
    """Return the order in which that day of two lies lower that has the lesser count where they first differ."""
    grades = grades_of(book)
    counts = [counts_on(book, grades, day) for day in range(book.marks.days)]
    places = {counted: place for place, counted in enumerate(sorted(set(counts)))}
    return Order([places[counted] for counted in counts])
