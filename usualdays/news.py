"""News: pieces of news that change an order, each by its force."""

from usualdays.checks import check_fitting, check_many
from usualdays.daysets import set_of
from usualdays.errors import BadPiece, NeedNot, OtherDays
from usualdays.orders import Order
from usualdays.ratios import is_whole
from usualdays.sayings import Saying

HIGHEST_FORCE = 10 ** 27
MOST_PIECES = 60


def is_force(thing):
    """Tell whether a thing is a force."""
    return is_whole(thing, 1, HIGHEST_FORCE)


class Piece:
    """A "usually" saying and the force by which it lifts the days that break it."""

    def __init__(self, saying, force):
        if not isinstance(saying, Saying) or not saying.usual:
            raise BadPiece("saying")
        if not is_force(force):
            raise BadPiece("force")
        self.saying = saying
        self.force = force

    def __eq__(self, other):
        return isinstance(other, Piece) and self.saying == other.saying and self.force == other.force


def order_of_news(start, pieces):
    """Return the order in which each day lies higher than in start by the forces of what it breaks, lowered."""
    check_fitting(len(start), [piece.saying for piece in pieces])
    check_many(len(pieces), MOST_PIECES)
    return Order.lowered([layer + force_against(pieces, day) for day, layer in enumerate(start.layers)])


def force_against(pieces, day):
    """Return the sum of the forces of the pieces that a day breaks."""
    return sum([piece.force for piece in pieces if piece.saying.broken >> day & 1])


def firmness(order, saying):
    """Return how far the breaking days of a "usually" saying lie above the confirming ones, or None."""
    check_fitting(len(order), [saying])
    if not saying.usual:
        raise NeedNot(None)
    if saying.confirm == 0 or saying.broken == 0:
        return None
    return order.least(saying.broken) - order.least(saying.confirm)


def all_days_of(order):
    """Return the day set of all days of an order."""
    return (1 << len(order)) - 1


def stack(order):
    """Return the pieces that make an order from the flat one, layer by layer from below."""
    pieces = []
    below = 0
    bottom = 0
    for level in order.levels:
        layer = order.least(level)
        if below > 0:
            pieces.append(Piece(Saying(all_days_of(order), below), layer - bottom))
        below = below | level
        bottom = layer
    return tuple(pieces)


def single_piece(one, other):
    """Return the piece about all days that makes the second order from the first one, or None.

    Such a piece lowers all days that confirm it by one number and raises all others by another one.
    """
    if len(one) != len(other):
        raise OtherDays()
    moves = [theirs - mine for mine, theirs in zip(one.layers, other.layers)]
    down = min(moves)
    force = max(moves) - down
    if len(set(moves)) != 2 or not is_force(force):
        return None
    return Piece(Saying(all_days_of(one), set_of([day for day, move in enumerate(moves) if move == down])), force)
