"""Steady sayings: what holds whichever withdrawal is made."""

from usualdays.books import is_lot
from usualdays.errors import BadCosts, OtherDays
from usualdays.liftjudge import stuck_fault
from usualdays.lifting import Lifted, lift
from usualdays.ratios import is_whole
from usualdays.strife import check_strife, strife
from usualdays.told import NotTold, tell

HIGHEST_COST = 10 ** 30


class Steady:
    """For each withdrawal, why the book without it tells the saying."""

    def __init__(self, stucks):
        self.stucks = stucks


class Unsteady:
    """A withdrawal, and a full order of the rest that does not keep the saying."""

    def __init__(self, lot, order):
        self.lot = lot
        self.order = order


class Cheapest:
    """The least sum of the costs of a withdrawal, and all withdrawals with this sum."""

    def __init__(self, cost, lots):
        self.cost = cost
        self.lots = lots


def kept_lot(book, order):
    """Return the lot of the sayings that an order keeps."""
    if len(order) != book.marks.days:
        raise OtherDays()
    return tuple([number for number, saying in enumerate(book) if order.keeps(saying)])


def with_number(lot, number):
    """Return a lot with one more number."""
    return tuple(sorted(lot + (number,)))


def has_order(book, lot):
    """Tell whether some order keeps the sayings of a lot."""
    return isinstance(lift(book.only(lot)), Lifted)


def is_full(book, order):
    """Tell whether no order keeps what this one keeps and one more saying of the book."""
    kept = kept_lot(book, order)
    others = [number for number in range(len(book)) if number not in kept]
    return not any([has_order(book, with_number(kept, number)) for number in others])


def filled(book, order):
    """Return a full order that keeps what this one keeps, and further sayings, the first ones first."""
    lot = kept_lot(book, order)
    for number in range(len(book)):
        if number not in lot and has_order(book, with_number(lot, number)):
            lot = with_number(lot, number)
    return lift(book.only(lot)).order


def steady(book, saying):
    """Return Steady if every full order keeps a saying, otherwise Unsteady."""
    check_strife(book, [saying])
    stucks = []
    for lot, _ in strife(book).withdrawals:
        answer = tell(book.without(lot), saying)
        if isinstance(answer, NotTold):
            return Unsteady(lot, answer.order)
        stucks.append(answer.stuck)
    return Steady(tuple(stucks))


def steady_fault(book, saying, answer):
    """Return None if a Steady or an Unsteady is right, otherwise a word."""
    check_strife(book, [saying])
    if isinstance(answer, Steady):
        return stucks_fault(book, saying, answer.stucks)
    order = answer.order
    if len(order) != book.marks.days or not is_full(book, order):
        return "order"
    if not is_lot(answer.lot, len(book)) or answer.lot != broken_lot(book, order):
        return "lot"
    return "kept" if order.keeps(saying) else None


def stucks_fault(book, saying, stucks):
    """Return None if these show that the book tells a saying without each withdrawal, otherwise a word."""
    withdrawals = strife(book).withdrawals
    if len(stucks) != len(withdrawals):
        return "count"
    for (lot, _), stuck in zip(withdrawals, stucks):
        if stuck_fault(book.without(lot), stuck, saying.contrary()) is not None:
            return "stuck"
    return None


def broken_lot(book, order):
    """Return the lot of the sayings that an order does not keep."""
    kept = kept_lot(book, order)
    return tuple([number for number in range(len(book)) if number not in kept])


def cheapest(book, costs):
    """Return the Cheapest withdrawals of a book."""
    check_strife(book, [])
    if not are_costs(costs, len(book)):
        raise BadCosts()
    lots = [lot for lot, _ in strife(book).withdrawals]
    least = min([cost_of(lot, costs) for lot in lots])
    return Cheapest(least, tuple([lot for lot in lots if cost_of(lot, costs) == least]))


def are_costs(things, many):
    """Tell whether these are so many costs."""
    if not isinstance(things, (list, tuple)) or len(things) != many:
        return False
    return all([is_whole(thing, 0, HIGHEST_COST) for thing in things])


def cost_of(lot, costs):
    """Return the sum of the costs of a lot."""
    return sum([costs[number] for number in lot])
