"""Histories: news that is put in, taken back and restored."""

from usualdays.checks import check_fitting
from usualdays.errors import BadStart, NoDeed, NoPiece, TooMany
from usualdays.news import MOST_PIECES, Piece, order_of_news
from usualdays.orders import Order
from usualdays.ratios import is_whole


class History:
    """A changing object: an order to begin with, pieces of news, and the deeds that were done with them."""

    def __init__(self, start):
        if not isinstance(start, Order):
            raise BadStart()
        self._start = start
        self._pieces = []
        # The numbers of the lying pieces, at the beginning and behind each deed.
        self._states = [()]

    @property
    def now(self):
        """The order of the news of all pieces that lie."""
        return self._order_of(self._states[-1])

    @property
    def lying(self):
        """The numbers of the pieces that lie."""
        return self._states[-1]

    @property
    def deeds(self):
        """The number of deeds."""
        return len(self._states) - 1

    def put(self, saying, force):
        """Add a piece of news, and return its number."""
        piece = Piece(saying, force)
        check_fitting(len(self._start), [saying])
        number = len(self._pieces)
        if number == MOST_PIECES:
            raise TooMany(number + 1)
        self._pieces.append(piece)
        self._states.append(self._states[-1] + (number,))
        return number

    def take_back(self, number):
        """Take back a piece that lies."""
        self._check_lying(number)
        self._states.append(tuple([lying for lying in self._states[-1] if lying != number]))

    def restore(self, number):
        """Make a piece lie again that was taken back."""
        if not self._is_piece(number) or number in self._states[-1]:
            raise NoPiece(number)
        self._states.append(tuple(sorted(self._states[-1] + (number,))))

    def as_of(self, number):
        """Return the order of the news behind so many deeds."""
        if not is_whole(number, 0, len(self._states) - 1):
            raise NoDeed(number)
        return self._order_of(self._states[number])

    def piece(self, number):
        """Return the piece with a number, also if it was taken back."""
        if not self._is_piece(number):
            raise NoPiece(number)
        return self._pieces[number]

    def without(self, *numbers):
        """Return the order of the news of the lying pieces that are not named."""
        for number in numbers:
            self._check_lying(number)
        return self._order_of([lying for lying in self._states[-1] if lying not in numbers])

    def _is_piece(self, number):
        return is_whole(number, 0, len(self._pieces) - 1)

    def _check_lying(self, number):
        if not self._is_piece(number) or number not in self._states[-1]:
            raise NoPiece(number)

    def _order_of(self, numbers):
        return order_of_news(self._start, [self._pieces[number] for number in numbers])
