"""Margins: how far one day set lies below another in all orders that keep a book."""

from usualdays.checks import check_where
from usualdays.daysets import days_in, set_of, within
from usualdays.liftjudge import heights_fall, highs_fit, reasoned, reasons_fit
from usualdays.lifting import Stuck, climb, lift, lifted_layers
from usualdays.orders import Order


class Margin:
    """In every order the second day set lies at least so many layers above the first one."""

    def __init__(self, many, order, offsets, reasons, heights):
        self.many = many
        self.order = order
        self.offsets = offsets
        self.reasons = reasons
        self.heights = heights


class Loose:
    """An order with the second day set below the first one, and the days that may be raised from there."""

    def __init__(self, order, raised):
        self.order = order
        self.raised = raised


def far_layer(book):
    """Return a layer that no day reaches unless it is pushed there from a start."""
    return 2 * book.marks.days


def start_with(book, one, layer):
    """Return a start with a layer for the days of a day set, and 0 for all others."""
    return [layer if one >> day & 1 else 0 for day in range(book.marks.days)]


def margin(book, one, other):
    """Return the Margin of two day sets, or a Loose, or the Stuck of a book that no order keeps."""
    check_where(book.marks, one)
    check_where(book.marks, other)
    found = lift(book)
    if isinstance(found, Stuck):
        return found
    far = far_layer(book)
    layers, reasons, heights = climb(book.sayings, start_with(book, one, far))
    order = Order.lowered(layers)
    raised = set_of([day for day, layer in enumerate(layers) if layer >= far])
    if not within(other, raised):
        return Loose(order, raised)
    offsets = tuple([layer - far if layer >= far else None for layer in layers])
    told = [None if offset is None else reason for offset, reason in zip(offsets, reasons)]
    many = min([offsets[day] for day in days_in(other)])
    return Margin(many, order, offsets, tuple(told), heights)


def margin_fault(book, one, other, answer):
    """Return None if a Margin or a Loose is right, otherwise a word."""
    if not isinstance(answer, (Margin, Loose)):
        return "answer"
    if len(answer.order) != book.marks.days or not answer.order.keeps_all(book):
        return "order"
    if isinstance(answer, Loose):
        return loose_fault(book, one, other, answer)
    return offsets_fault(book, one, other, answer)


def difference(order, one, other):
    """Return how far the least layer of the second day set lies above that of the first one."""
    return order.least(other) - order.least(one)


def offsets_fault(book, one, other, answer):
    """Return the word for what is wrong in a Margin whose order keeps the book, or None."""
    offsets = answer.offsets
    reasons = answer.reasons
    if any([offset is not None and offset < 0 for offset in offsets]):
        return "offsets"
    if None in [offsets[day] for day in days_in(other)]:
        return "offsets"
    if answer.many != min([offsets[day] for day in days_in(other)]):
        return "many"
    if answer.many != difference(answer.order, one, other):
        return "many"
    if not reasons_fit(reasons, reasons_wanted(one, offsets), len(book)):
        return "reasons"
    if not highs_fit(book.sayings, reasons):
        return "high"
    if not all([pushes(offsets, day, saying) for day, saying in reasoned(book.sayings, reasons)]):
        return "low"
    if not heights_fall(book.sayings, reasons, answer.heights, offsets):
        return "ring"
    return None


def reasons_wanted(one, offsets):
    """Return for each day whether its offset needs a reason."""
    return [offset is not None and not (offset == 0 and one >> day & 1) for day, offset in enumerate(offsets)]


def pushes(offsets, day, saying):
    """Tell whether each day of the low has an offset that is high enough for this day's offset."""
    least = offsets[day] - saying.step
    return all([offsets[low] is not None and offsets[low] >= least for low in days_in(saying.low)])


def loose_fault(book, one, other, answer):
    """Return the word for what is wrong in a Loose whose order keeps the book, or None."""
    order = answer.order
    if not within(one, answer.raised) or within(order.normal(other), answer.raised):
        return "raised"
    if not all([may_raise(order, answer.raised, saying) for saying in book]):
        return "raised"
    if difference(order, one, other) >= 0:
        return "many"
    return None


def may_raise(order, raised, saying):
    """Tell whether an order still satisfies a saying, however far these days are raised together."""
    held = order.least(saying.high & ~raised)
    bottom = order.least(saying.low & ~raised)
    return held is None or (bottom is not None and bottom + saying.step <= held)


def relation(book, one, other):
    """Return the word for how two day sets lie in all orders that keep the book."""
    found = margin(book, one, other)
    if isinstance(found, Stuck):
        return "all"
    back = margin(book, other, one)
    if isinstance(found, Margin) and isinstance(back, Margin):
        return "level"
    if isinstance(found, Margin):
        return "below" if found.many > 0 else "not above"
    if isinstance(back, Margin):
        return "above" if back.many > 0 else "not below"
    return "free"


def order_apart(book, one, other, many):
    """Return an order that keeps the book with the least layers just so many apart, or None."""
    check_where(book.marks, one)
    check_where(book.marks, other)
    if many < 0:
        return order_above(book, other, one, -many)
    return order_above(book, one, other, many)


def order_above(book, one, other, many):
    """Return an order with the second day set just so many above the first one, or None.

    If there is such an order, it can be moved to lie above this start, and so above the least layers
    from there; then these have the same difference.
    """
    far = far_layer(book)
    ones = start_with(book, one, far)
    others = start_with(book, other, far + many)
    layers = lifted_layers(book, start=[max(mine, yours) for mine, yours in zip(ones, others)])
    if None in layers:
        return None
    order = Order.lowered(layers)
    return order if difference(order, one, other) == many else None
