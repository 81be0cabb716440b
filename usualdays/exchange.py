"""Exchange: two watchers who report to each other the layers of the shared days alone."""

from usualdays.errors import OtherLook, StuckAlone
from usualdays.lifting import Stuck, lift, lifted_layers
from usualdays.looks import look_of, spread_over
from usualdays.orders import Order


class Stranded:
    """A watcher whose own book no order keeps."""

    def __init__(self, who, stuck):
        self.who = who
        self.stuck = stuck


class Met:
    """The least orders of the own books, and that of both together."""

    def __init__(self, one, other, order):
        self.one = one
        self.other = other
        self.order = order


class Clash:
    """Why no order keeps both books, though some keep each of them."""

    def __init__(self, stuck):
        self.stuck = stuck


class Exchange:
    """All reports, the last orders of the watchers, and the order that they make; None in a clash."""

    def __init__(self, reports, one, other, order):
        self.reports = reports
        self.one = one
        self.other = other
        self.order = order


def stranded(watchers):
    """Return Stranded with the first watcher whose own book no order keeps, or None."""
    for who, book in (("one", watchers.one), ("other", watchers.other)):
        found = lift(book)
        if isinstance(found, Stuck):
            return Stranded(who, found)
    return None


def meet(watchers):
    """Return Stranded, Met or Clash."""
    alone = stranded(watchers)
    if alone is not None:
        return alone
    found = lift(watchers.together)
    if isinstance(found, Stuck):
        return Clash(found)
    return Met(lift(watchers.one).order, lift(watchers.other).order, found.order)


def exchange_layers(watchers):
    """Return the Exchange of two watchers."""
    alone = stranded(watchers)
    if alone is not None:
        raise StuckAlone(alone.who)
    books = (watchers.one, watchers.other)
    reports = []
    last = (0,) * (1 << len(watchers.shared))
    layers = [None, None]
    is_new = True
    while is_new:
        turn = len(reports) & 1
        layers[turn] = layers_from(books[turn], last, watchers.shared)
        report = look_of(books[turn].marks, layers[turn], watchers.shared)
        is_new = not reports or report != last
        reports.append(report)
        if max(report) >= watchers.marks.days:
            return Exchange(tuple(reports), None, None, None)
        last = report
    one = Order(layers[0])
    other = Order(layers[1])
    return Exchange(tuple(reports), one, other, join_orders(watchers, one, other))


def layers_from(book, report, shared):
    """Return the layers of a watcher's book, lifted from a report."""
    return lifted_layers(book, start=spread_over(book.marks, report, shared))


def join_orders(watchers, one, other):
    """Return the order of all days in which each lies as high as the higher one of the two that it looks like."""
    marks_one = watchers.one.marks
    marks_other = watchers.other.marks
    # These raise OtherDays for an order of other days.
    look_one = look_of(marks_one, one, watchers.shared)
    look_other = look_of(marks_other, other, watchers.shared)
    for day, (mine, yours) in enumerate(zip(look_one, look_other)):
        if mine != yours:
            raise OtherLook(day)
    wide_one = spread_over(watchers.marks, one, marks_one.names)
    wide_other = spread_over(watchers.marks, other, marks_other.names)
    return Order([max(mine, yours) for mine, yours in zip(wide_one, wide_other)])
