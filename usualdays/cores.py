"""Cores and fronts: what a book says of the most normal days of a day set."""

from usualdays.checks import check_many, check_where
from usualdays.daysets import days_in, set_of, size, within
from usualdays.liftjudge import stuck_fault
from usualdays.lifting import Lifted, lift
from usualdays.lots import all_lots
from usualdays.sayings import Saying

MOST_DAYS_FOR_FRONTS = 6


class Core:
    """The days that are among the most normal ones in some order, such orders, and why no more."""

    def __init__(self, days, orders, stuck):
        self.days = days
        self.orders = orders
        self.stuck = stuck


class Front:
    """A least day set that may hold all the most normal days, with the least such order."""

    def __init__(self, days, order):
        self.days = days
        self.order = order


def lowest_of(day, where):
    """Return the saying that no day of where lies below this day."""
    return Saying.of_days(where & ~(1 << day), 1 << day, False)


def core(book, where):
    """Return the Core of a day set."""
    check_where(book.marks, where)
    days = []
    orders = []
    for day in days_in(where):
        found = lift(book, lowest_of(day, where))
        if isinstance(found, Lifted):
            days.append(day)
            orders.append(found.order)
    day_set = set_of(days)
    return Core(day_set, tuple(orders), lift(book, Saying(where, day_set).contrary()))


def core_fault(book, where, answer):
    """Return None if a Core is right, otherwise a word."""
    check_where(book.marks, where)
    if not within(answer.days, where):
        return "days"
    days = days_in(answer.days)
    if len(answer.orders) != len(days):
        return "orders"
    for day, order in zip(days, answer.orders):
        if not has_lowest(book, where, day, order):
            return "orders"
    if stuck_fault(book, answer.stuck, Saying(where, answer.days).contrary()) is not None:
        return "stuck"
    return None


def has_lowest(book, where, day, order):
    """Tell whether an order keeps the book and has no day of where below this day."""
    if len(order) != book.marks.days or not order.keeps_all(book):
        return False
    return order.least(where) >= order[day]


def fronts(book, where):
    """Return all fronts of a day set, those of fewer days first."""
    check_where(book.marks, where)
    check_many(size(where), MOST_DAYS_FOR_FRONTS)
    found = []
    for days in parts_of(where):
        known = any([within(front.days, days) for front in found])
        if known:
            continue
        answer = lift(book, Saying(where, days))
        if isinstance(answer, Lifted):
            found.append(Front(days, answer.order))
    return tuple(found)


def parts_of(where):
    """Return the nonempty day sets within a day set, those of fewer days first, then the lesser number."""
    days = days_in(where)
    parts = [set_of([days[place] for place in lot]) for lot in all_lots(len(days)) if lot]
    sized = sorted([(size(part), part) for part in parts])
    return [part for _, part in sized]
