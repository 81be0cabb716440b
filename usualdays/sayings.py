"""Sayings: "where .. usually .." and "where .. it need not be that .."."""

from usualdays.errors import BadSaying, NoDay
from usualdays.ratios import is_whole

HIGHEST_DAY_SET = 65535
HIGHEST_DAY = 15


def is_day_set(thing):
    """Tell whether a thing is a day set of at most four marks."""
    return is_whole(thing, 0, HIGHEST_DAY_SET)


def verdict_on(confirm, broken, day):
    """Return the word for a day, given the confirming and the breaking days."""
    if not is_whole(day, 0, HIGHEST_DAY):
        raise NoDay(day)
    if confirm >> day & 1:
        return "confirmed"
    if broken >> day & 1:
        return "broken"
    return "silent"


def saying_with(low, high, usual):
    """Return the saying of a kind with these low and these high days."""
    return Saying.of_days(low, high) if usual else Saying.of_days(high, low, False)


class Saying:
    """A saying by its day sets; an order keeps it if each high day lies step above the least low day."""

    def __init__(self, where, then, usual=True):
        if not is_day_set(where) or where == 0:
            raise BadSaying("where")
        if not is_day_set(then):
            raise BadSaying("then")
        if not isinstance(usual, bool):
            raise BadSaying("usual")
        self.where = where
        self.then = then
        self.usual = usual
        self.confirm = where & then
        self.broken = where & ~then
        self.low = self.confirm if usual else self.broken
        self.high = self.broken if usual else self.confirm
        self.step = 1 if usual else 0

    @classmethod
    def of_days(cls, confirm, broken, usual=True):
        """Return the saying with these confirming and these breaking days."""
        if not is_day_set(confirm):
            raise BadSaying("confirm")
        if not is_day_set(broken):
            raise BadSaying("broken")
        if confirm & broken:
            raise BadSaying("overlap")
        return cls(confirm | broken, confirm, usual)

    def contrary(self):
        """Return the saying of the other kind, of which an order keeps exactly one with this one."""
        return Saying(self.where, self.then, not self.usual)

    def flipped(self):
        """Return the saying with confirming and breaking days exchanged."""
        return Saying(self.where, self.broken, self.usual)

    def on(self, day):
        """Return "confirmed", "broken" or "silent"."""
        return verdict_on(self.confirm, self.broken, day)

    def __eq__(self, other):
        return (isinstance(other, Saying) and self.where == other.where
                and self.then == other.then and self.usual == other.usual)
