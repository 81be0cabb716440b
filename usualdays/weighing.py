"""Weighing: whether a saying is kept for all steep forces of a book."""

from usualdays.checks import check_days, check_usual
from usualdays.daysets import days_in
from usualdays.forces import are_forces, check_grades, forced_order, steep
from usualdays.ratios import is_whole


class ForAllForces:
    """For each day that should lie high a day that makes it so for all steep forces."""

    def __init__(self, matches):
        self.matches = matches


class NotForAll:
    """Steep forces for which the order does not keep the saying."""

    def __init__(self, forces):
        self.forces = forces


def check_weighing(book, grades, saying):
    """Raise the errors of weigh."""
    check_days(book.marks, [saying])
    check_usual(book)
    check_grades(grades, len(book), len(book))


def worst_alone(book, grades, one, other):
    """Return the greatest grade of a saying that the first day breaks and the second one does not, -1 for none."""
    alone = [grade for saying, grade in zip(book.sayings, grades)
             if saying.broken >> one & 1 and not saying.broken >> other & 1]
    return max(alone, default=-1)


def is_match(book, grades, saying, low, high):
    """Tell whether a low day matches a high day: outdoes it or, for "need not", breaks the same sayings."""
    mine = worst_alone(book, grades, low, high)
    theirs = worst_alone(book, grades, high, low)
    return mine < theirs or saying.step == 0 and mine == theirs == -1


def match_for(book, grades, saying, high):
    """Return the first day that matches a high day, or None."""
    for low in days_in(saying.low):
        if is_match(book, grades, saying, low, high):
            return low
    return None


def forces_for(book, grades, high):
    """Return steep forces that leave a day as low as can be.

    In each grade, a saying that it does not break is stronger than all together that it breaks of this
    grade and of all lower ones. So every other day lies above it, but for those that outdo it or break
    the same sayings.
    """
    forces = [0] * len(book)
    below = 0
    for grade in sorted(set(grades)):
        numbers = [number for number, own in enumerate(grades) if own == grade]
        broken = [number for number in numbers if book[number].broken >> high & 1]
        for number in numbers:
            forces[number] = (below + 1) * (1 if number in broken else len(broken) + 1)
        below = below + sum([forces[number] for number in numbers])
    return tuple(forces)


def weigh(book, grades, saying):
    """Return ForAllForces if all steep forces make an order that keeps a saying, otherwise NotForAll."""
    check_weighing(book, grades, saying)
    matches = [None] * book.marks.days
    for high in days_in(saying.high):
        match = match_for(book, grades, saying, high)
        if match is None:
            return NotForAll(forces_for(book, grades, high))
        matches[high] = match
    return ForAllForces(tuple(matches))


def weigh_fault(book, grades, saying, answer):
    """Return None if a ForAllForces or a NotForAll is right, otherwise a word."""
    check_weighing(book, grades, saying)
    if isinstance(answer, ForAllForces):
        return matches_fault(book, grades, saying, answer.matches)
    if not are_forces(answer.forces, len(book)) or not steep(grades, answer.forces):
        return "forces"
    return "kept" if forced_order(book, answer.forces).keeps(saying) else None


def matches_fault(book, grades, saying, matches):
    """Return None if each high day has a day that matches it, otherwise a word."""
    if len(matches) != book.marks.days:
        return "count"
    for day, match in enumerate(matches):
        if not has_place(book, saying, day, match):
            return "day"
    if not all([is_match(book, grades, saying, matches[high], high) for high in days_in(saying.high)]):
        return "match"
    return None


def has_place(book, saying, day, match):
    """Tell whether a high day has a low day beside it, and another day none."""
    if not saying.high >> day & 1:
        return match is None
    return is_whole(match, 0, book.marks.days - 1) and saying.low >> match & 1 == 1
