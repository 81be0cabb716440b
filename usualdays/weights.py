"""Weights: a whole number for each day, by which chances are measured."""

from math import gcd

from usualdays.daysets import days_in
from usualdays.errors import BadWeights, NoDay, OtherDays
from usualdays.orders import DAY_COUNTS
from usualdays.ratios import is_number, is_whole


def check_weights(numbers):
    """Raise BadWeights unless there is a weight for each of 2, 4, 8 or 16 days, and not all are 0."""
    if not isinstance(numbers, (list, tuple)) or len(numbers) not in DAY_COUNTS:
        raise BadWeights("count")
    if not all([is_number(number) and number >= 0 for number in numbers]):
        raise BadWeights("number")
    if not any([number > 0 for number in numbers]):
        raise BadWeights("none")


class Weights:
    """A weight of at least 0 for each day, not all of them 0."""

    def __init__(self, numbers):
        check_weights(numbers)
        self.numbers = tuple(numbers)

    @classmethod
    def even(cls, days):
        """Return the weights that are 1 on each of so many days."""
        if not is_number(days) or days not in DAY_COUNTS:
            raise BadWeights("count")
        return cls([1] * days)

    @property
    def total(self):
        """The sum of the weights."""
        return sum(self.numbers)

    @property
    def is_full(self):
        """Whether every weight is above 0."""
        return all([number > 0 for number in self.numbers])

    def of(self, day_set):
        """Return the sum of the weights of the days of a day set."""
        self._check_days(day_set)
        return sum([self.numbers[day] for day in days_in(day_set)])

    def given(self, day_set):
        """Return the weights that are the same on the days of a day set, and 0 on all others."""
        self._check_days(day_set)
        return Weights([number if day_set >> day & 1 else 0 for day, number in enumerate(self.numbers)])

    def lowest(self):
        """Return the weights divided by their greatest common divisor."""
        shared = 0
        for number in self.numbers:
            shared = gcd(shared, number)
        return Weights([number // shared for number in self.numbers])

    def _check_days(self, day_set):
        if not is_whole(day_set, 0, (1 << len(self.numbers)) - 1):
            raise OtherDays()

    def __getitem__(self, day):
        if not is_whole(day, 0, len(self.numbers) - 1):
            raise NoDay(day)
        return self.numbers[day]

    def __len__(self):
        return len(self.numbers)

    def __iter__(self):
        return iter(self.numbers)

    def __add__(self, other):
        if len(self.numbers) != len(other.numbers):
            raise OtherDays()
        return Weights([mine + yours for mine, yours in zip(self.numbers, other.numbers)])

    def __mul__(self, other):
        if not is_number(other) or other < 1:
            raise BadWeights("number")
        return Weights([number * other for number in self.numbers])

    def __eq__(self, other):
        return isinstance(other, Weights) and self.numbers == other.numbers
