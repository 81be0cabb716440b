"""Judging what lifting returns."""

from usualdays.checks import check_days
from usualdays.daysets import days_in, within
from usualdays.ratios import is_whole


def lifted_fault(book, lifted, *further):
    """Return None if a Lifted is right for the book and further sayings, otherwise a word."""
    check_days(book.marks, further)
    sayings = book.sayings + further
    order = lifted.order
    reasons = lifted.reasons
    if len(order) != book.marks.days:
        return "order"
    if not reasons_fit(reasons, [layer > 0 for layer in order.layers], len(sayings)):
        return "reasons"
    if not heights_fit(lifted.heights, book.marks.days):
        return "heights"
    if not order.keeps_all(sayings):
        return "kept"
    if not highs_fit(sayings, reasons):
        return "high"
    if not all([reaches(order, day, saying) for day, saying in reasoned(sayings, reasons)]):
        return "low"
    if not heights_fall(sayings, reasons, lifted.heights, order.layers):
        return "ring"
    return None


def stuck_fault(book, stuck, *further):
    """Return None if a Stuck is right for the book and further sayings, otherwise a word."""
    check_days(book.marks, further)
    sayings = book.sayings + further
    reasons = stuck.reasons
    days = book.marks.days
    if not is_whole(stuck.days, 1, book.marks.all_days):
        return "days"
    if not reasons_fit(reasons, [stuck.days >> day & 1 == 1 for day in range(days)], len(sayings)):
        return "reasons"
    if not heights_fit(stuck.heights, days):
        return "heights"
    if not highs_fit(sayings, reasons):
        return "high"
    if not all([within(saying.low, stuck.days) for _, saying in reasoned(sayings, reasons)]):
        return "low"
    if not heights_fall(sayings, reasons, stuck.heights, [0] * days):
        return "ring"
    return None


def reasons_fit(reasons, wanted, many):
    """Tell whether just the wanted days have reasons, and these are numbers of so many sayings."""
    if len(reasons) != len(wanted):
        return False
    for reason, is_wanted in zip(reasons, wanted):
        if is_wanted != (reason is not None):
            return False
        if reason is not None and not is_whole(reason, 0, many - 1):
            return False
    return True


def heights_fit(heights, days):
    """Tell whether there is a height of at least 0 for each day."""
    return len(heights) == days and all([height >= 0 for height in heights])


def reasoned(sayings, reasons):
    """Return pairs of a day that has a reason and the saying that is its reason."""
    return [(day, sayings[reason]) for day, reason in enumerate(reasons) if reason is not None]


def highs_fit(sayings, reasons):
    """Tell whether each day with a reason is in the high of its reason."""
    return all([saying.high >> day & 1 for day, saying in reasoned(sayings, reasons)])


def reaches(order, day, saying):
    """Tell whether a saying that the order keeps lifts a day of its high as high as it lies."""
    return order.least(saying.low) + saying.step >= order.layers[day]


def heights_fall(sayings, reasons, heights, places):
    """Tell whether each day of step 0 lies higher than the days of its low that have its place and step 0."""
    level = [day for day, saying in reasoned(sayings, reasons) if saying.step == 0]
    for day in level:
        low = sayings[reasons[day]].low
        beside = [below for below in days_in(low) if below in level and places[below] == places[day]]
        if any([heights[below] >= heights[day] for below in beside]):
            return False
    return True
