"""Lifting: the least order that keeps a book, or the days that are stuck."""

from usualdays.checks import check_days
from usualdays.daysets import days_in, set_of
from usualdays.errors import BadStart, OtherDays
from usualdays.orders import HIGHEST_LAYER, Order
from usualdays.ratios import is_whole


class Lifted:
    """The least order that keeps the sayings, and why no day lies lower."""

    def __init__(self, order, reasons, heights):
        self.order = order
        self.reasons = reasons
        self.heights = heights

    @property
    def grounds(self):
        """The lot of the sayings among the reasons."""
        return numbers_among(self.reasons)


class Stuck:
    """Days none of which can be the lowest of them; so no order keeps the sayings."""

    def __init__(self, days, reasons, heights):
        self.days = days
        self.reasons = reasons
        self.heights = heights

    @property
    def grounds(self):
        """The lot of the sayings among the reasons."""
        return numbers_among(self.reasons)


def numbers_among(reasons):
    """Return the lot of the numbers among reasons."""
    return tuple(sorted({reason for reason in reasons if reason is not None}))


def lift(book, *further):
    """Return Lifted with the least order that keeps the book and further sayings, otherwise Stuck."""
    check_days(book.marks, further)
    layers, reasons, heights = climb(book.sayings + further, [0] * book.marks.days)
    stuck = set_of([day for day, layer in enumerate(layers) if layer is None])
    if stuck == 0:
        return Lifted(Order(layers), reasons, heights)
    without_end = [reason if layer is None else None for layer, reason in zip(layers, reasons)]
    return Stuck(stuck, tuple(without_end), heights)


def lifted_layers(book, *further, start=None):
    """Return the least layers, from a start up, that satisfy all sayings; None for a day without end."""
    check_days(book.marks, further)
    days = book.marks.days
    if isinstance(start, (list, tuple)) and len(start) != days:
        raise OtherDays()
    if start is None:
        start = [0] * days
    check_start(start)
    return climb(book.sayings + further, start)[0]


def check_start(start):
    """Raise BadStart unless this is a list or tuple of layers."""
    if not isinstance(start, (list, tuple)):
        raise BadStart()
    for layer in start:
        if not is_whole(layer, 0, HIGHEST_LAYER):
            raise BadStart()


def climb(sayings, start):
    """Return the least layers that satisfy the sayings, and for each day a reason and a height.

    Layer by layer from below, all days stay that can stay at or below this layer; the others leave
    with a reason. So the last reason of a day is the one for which it lies no lower.
    """
    layers = [None] * len(start)
    reasons = [None] * len(start)
    heights = [0] * len(start)
    placed = 0
    layer = min(start)
    while layer is not None:
        room = set_of([day for day, least in enumerate(start) if least <= layer])
        staying = stay(sayings, room, placed, reasons, heights)
        for day in days_in(staying & ~placed):
            layers[day] = layer
        layer = layer_behind(layer, start, staying != placed)
        placed = staying
    return tuple(layers), tuple(reasons), tuple(heights)


def stay(sayings, room, placed, reasons, heights):
    """Return the days of room that can lie at or below a layer, if those placed lie below it.

    Writes for each other day of room the saying that makes it leave, and a height: a day leaves with
    a greater height than the days whose leaving makes it leave.
    """
    staying = room
    height = 0
    again = True
    while again:
        again = False
        for number, saying in enumerate(sayings):
            leaving = saying.high & staying
            holding = placed if saying.step == 1 else staying
            if leaving == 0 or saying.low & holding:
                continue
            height += 1
            for day in days_in(leaving):
                reasons[day] = number
                heights[day] = height
            staying = staying & ~leaving
            again = True
    return staying


def layer_behind(layer, start, grown):
    """Return the next layer at which a day may be placed, or None.

    Where no day was placed, none can be before a day comes in by its start; so the layers between are
    passed over at once.
    """
    if grown:
        return layer + 1
    return min([least for least in start if least > layer], default=None)
