"""Verdicts: on which days something is confirmed and on which it is broken."""

from usualdays.daysets import within
from usualdays.errors import BadVerdicts
from usualdays.sayings import is_day_set, verdict_on


class Verdicts:
    """Two day sets without a common day: the confirming and the breaking days."""

    def __init__(self, confirm, broken):
        if not is_day_set(confirm) or not is_day_set(broken) or confirm & broken:
            raise BadVerdicts()
        self.confirm = confirm
        self.broken = broken

    @classmethod
    def none(cls):
        """Return the verdicts that are silent on every day."""
        return cls(0, 0)

    def on(self, day):
        """Return "confirmed", "broken" or "silent"."""
        return verdict_on(self.confirm, self.broken, day)

    def __add__(self, other):
        broken = self.broken | other.broken
        return Verdicts((self.confirm | other.confirm) & ~broken, broken)

    def __eq__(self, other):
        return isinstance(other, Verdicts) and self.confirm == other.confirm and self.broken == other.broken


def verdicts_of(saying):
    """Return the verdicts of a saying, of either kind."""
    return Verdicts(saying.confirm, saying.broken)


def joined(sayings):
    """Return the sum of the verdicts of all sayings."""
    total = Verdicts.none()
    for saying in sayings:
        total = total + verdicts_of(saying)
    return total


def sharper(one, other):
    """Tell whether the first verdicts are at least as sharp as the second ones."""
    return within(one.confirm, other.confirm) and within(other.broken, one.broken)
