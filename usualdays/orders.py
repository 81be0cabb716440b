"""Orders: how normal each day is."""

from usualdays.daysets import days_in, set_of
from usualdays.errors import BadOrder, NoDay, OtherDays
from usualdays.ratios import is_whole

HIGHEST_LAYER = 10 ** 30
DAY_COUNTS = (2, 4, 8, 16)


def check_layers(layers):
    """Raise BadOrder unless there is a layer for each of 2, 4, 8 or 16 days."""
    if not isinstance(layers, (list, tuple)) or len(layers) not in DAY_COUNTS:
        raise BadOrder("count")
    for layer in layers:
        if not is_whole(layer, 0, HIGHEST_LAYER):
            raise BadOrder("number")


class Order:
    """A layer for each day; lower layers are more normal, and some day has layer 0."""

    def __init__(self, layers):
        check_layers(layers)
        if 0 not in layers:
            raise BadOrder("bottom")
        self.layers = tuple(layers)

    @staticmethod
    def flat(days):
        """Return the order of so many days in which all have layer 0."""
        if not is_whole(days, 0, max(DAY_COUNTS)):
            raise BadOrder("count")
        return Order([0] * days)

    @staticmethod
    def lowered(layers):
        """Return the order of these layers less the least of them."""
        check_layers(layers)
        bottom = min(layers)
        return Order([layer - bottom for layer in layers])

    @property
    def levels(self):
        """The day sets of equal layer, from the lowest layer up."""
        different = sorted(set(self.layers))
        return tuple([self._days_at(layer) for layer in different])

    def _days_at(self, wanted):
        return set_of([day for day, layer in enumerate(self.layers) if layer == wanted])

    def least(self, days):
        """Return the least layer of the days of a day set, None for the empty one."""
        self._check_days(days)
        return min([self.layers[day] for day in days_in(days)], default=None)

    def normal(self, days):
        """Return the days of a day set that have its least layer."""
        bottom = self.least(days)
        return set_of([day for day in days_in(days) if self.layers[day] == bottom])

    def closed(self):
        """Return the order without gaps that sorts the days as this one does."""
        different = sorted(set(self.layers))
        places = {layer: place for place, layer in enumerate(different)}
        return Order([places[layer] for layer in self.layers])

    def beneath(self, other):
        """Tell whether no day has a greater layer in this order than in the other one."""
        self._check_length(other)
        return all([mine <= yours for mine, yours in zip(self.layers, other.layers)])

    def keeps(self, saying):
        """Tell whether the order keeps a saying."""
        self._check_days(saying.where | saying.then)
        bottom = self.least(saying.low)
        breaking = self.least(saying.high)
        if breaking is None:
            return True
        if bottom is None:
            return False
        return breaking >= bottom + saying.step

    def keeps_all(self, sayings):
        """Tell whether the order keeps all of some sayings."""
        return self._first_not_kept(sayings) is None

    def __call__(self, sayings):
        return self._first_not_kept(sayings)

    def _first_not_kept(self, sayings):
        for saying in sayings:
            self._check_days(saying.where | saying.then)
        for number, saying in enumerate(sayings):
            if not self.keeps(saying):
                return number
        return None

    def _check_days(self, days):
        if not is_whole(days, 0, (1 << len(self.layers)) - 1):
            raise OtherDays()

    def _check_length(self, other):
        if len(self.layers) != len(other.layers):
            raise OtherDays()

    def __getitem__(self, day):
        if not is_whole(day, 0, len(self.layers) - 1):
            raise NoDay(day)
        return self.layers[day]

    def __len__(self):
        return len(self.layers)

    def __iter__(self):
        return iter(self.layers)

    def __and__(self, other):
        self._check_length(other)
        return Order([min(mine, yours) for mine, yours in zip(self.layers, other.layers)])

    def __eq__(self, other):
        return isinstance(other, Order) and self.layers == other.layers


def layer_lines(order):
    """Yield a line for each level, from the lowest up: its layer and its days."""
    for level in order.levels:
        days = days_in(level)
        layer = order.layers[days[0]]
        names = "".join([f" {day}" for day in days])
        yield f"{layer:>4}:{names}"
