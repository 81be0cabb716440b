"""Added sayings: what two books tell together, and none of them alone."""

from usualdays.daysets import days_in, set_of
from usualdays.sayings import saying_with
from usualdays.told import NotTold, tell, tells, tells_all


def added_saying(watchers):
    """Return a saying that both books together tell and none of them alone, or None.

    It is enough to look for one with a single high day, or with two, of which the first book alone
    tells the one and the other book alone the other one.
    """
    one = watchers.wide_one
    other = watchers.wide_other
    if tells_all(one, other) or tells_all(other, one):
        # The books together tell no more than that book alone; to find none by search would take longer.
        return None
    all_days = watchers.marks.all_days
    days = range(watchers.marks.days)
    pairs = [(mine, yours) for mine in days for yours in days if mine != yours]
    for usual in (True, False):
        for day in days:
            low = find_low(all_days, usual, [(watchers.together, day)], [(one, day), (other, day)])
            if low is not None:
                return saying_with(low, 1 << day, usual)
        for mine, yours in pairs:
            low = find_low(all_days, usual, [(one, mine), (other, yours)], [(one, yours), (other, mine)])
            if low is not None:
                return saying_with(low, 1 << mine | 1 << yours, usual)
    return None


def find_low(all_days, usual, told, untold):
    """Return low days with which books tell all sayings wanted, and none unwanted, or None.

    A saying is a pair of a book and a high day.
    """
    high = set_of([day for _, day in told])
    return search_low(usual, told, untold, 0, all_days & ~high)


def search_low(usual, told, untold, low, free):
    """Return such low days, all of low among them and further ones only of the free days, or None.

    A book that tells a saying tells it also with more low days. If it does not, an order shows it, and
    shows it for all days that lie as high in it; so a lower day must come in.
    """
    if any([tells(book, saying_with(low, 1 << day, usual)) for book, day in untold]):
        return None
    if not all([tells(book, saying_with(low | free, 1 << day, usual)) for book, day in told]):
        return None
    for book, day in told:
        answer = tell(book, saying_with(low, 1 << day, usual))
        if isinstance(answer, NotTold):
            return widened_low(usual, told, untold, low, free, lower_days(answer.order, day, usual))
    return low


def widened_low(usual, told, untold, low, free, missing):
    """Return what search_low returns if at least one of the missing days must come in."""
    left = free
    for day in days_in(missing & free):
        left = left & ~(1 << day)
        found = search_low(usual, told, untold, low | 1 << day, left)
        if found is not None:
            return found
    return None


def lower_days(order, day, usual):
    """Return the days each of which as a low day would make an order keep a saying with this high day."""
    top = order.layers[day] - (1 if usual else 0)
    return set_of([own for own, layer in enumerate(order.layers) if layer <= top])
