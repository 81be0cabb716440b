"""Talks: two watchers who pass sayings on to each other and call them back."""

from usualdays.errors import AlreadyPassed, BadWho, NotPassed
from usualdays.lifting import Stuck, lift


class Talk:
    """A changing object: which sayings of the book of both are passed on."""

    def __init__(self, watchers):
        self.watchers = watchers
        self._passed = ()

    @property
    def passed(self):
        """The numbers that are passed on, in the order of passing on."""
        return self._passed

    @property
    def settled(self):
        """Whether both watchers know all sayings."""
        return len(self._passed) == len(self.watchers.together)

    def pass_on(self, number):
        """Make a saying known to the watcher who does not own it."""
        # This raises NoSaying.
        self.watchers.owner(number)
        if number in self._passed:
            raise AlreadyPassed(number)
        self._passed = self._passed + (number,)

    def call_back(self, number):
        """Make a saying that is passed on unknown again."""
        self.watchers.owner(number)
        if number not in self._passed:
            raise NotPassed(number)
        self._passed = tuple([other for other in self._passed if other != number])

    def known_to(self, who):
        """Return the numbers of the sayings that a watcher knows."""
        if who not in ("one", "other"):
            raise BadWho(who)
        numbers = range(len(self.watchers.together))
        return tuple([number for number in numbers if number in self._passed or self.watchers.owner(number) == who])

    def book_of(self, who):
        """Return the book of the sayings that a watcher knows."""
        return self.watchers.together.only(self.known_to(who))

    def order_of(self, who):
        """Return the least order of what a watcher knows, or None."""
        found = lift(self.book_of(who))
        return None if isinstance(found, Stuck) else found.order
