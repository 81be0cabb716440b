"""Tables: the normal days of every day set, and whether an order makes them."""

from usualdays.daysets import within
from usualdays.errors import BadTable, OtherDays
from usualdays.orders import Order
from usualdays.ratios import is_whole

# How many days a table of so many day sets is about.
DAYS_BY_LENGTH = {4: 2, 16: 4, 256: 8}
MOST_DAYS = 8


def check_table(normals):
    """Raise BadTable unless there are normal days for each day set of 2, 4 or 8 days."""
    if not isinstance(normals, (list, tuple)) or len(normals) not in DAYS_BY_LENGTH:
        raise BadTable("count", None)
    for day_set, normal in enumerate(normals):
        if not is_whole(normal, min(day_set, 1), day_set) or not within(normal, day_set):
            raise BadTable("normal", day_set)


class Table:
    """For each day set its normal days."""

    def __init__(self, normals):
        check_table(normals)
        self.normals = tuple(normals)
        self.days = DAYS_BY_LENGTH[len(normals)]

    @staticmethod
    def of_order(order):
        """Return the table of the normal days in an order."""
        if len(order) > MOST_DAYS:
            raise OtherDays()
        return Table([order.normal(day_set) for day_set in range(1 << len(order))])

    def __eq__(self, other):
        return isinstance(other, Table) and self.normals == other.normals


class Settled:
    """The order that makes a table."""

    def __init__(self, order):
        self.order = order


class Choosy:
    """Two day sets, the second within the first, whose normal days no order makes."""

    def __init__(self, many, few):
        self.many = many
        self.few = few


def rests_of(table):
    """Return the day sets that are left when again and again the normal days of what is left are taken away."""
    rests = []
    rest = len(table.normals) - 1
    while rest > 0:
        rests.append(rest)
        rest = rest & ~table.normals[rest]
    return rests


def settle(table):
    """Return Settled with the order whose table this is, or Choosy.

    If there is such an order, its levels are the normal days of the rests; and the normal days of a day
    set are those of the last rest that holds it, as far as they are in it.
    """
    rests = rests_of(table)
    for few in range(1, len(table.normals)):
        many = rests[last_holding(rests, few)]
        if table.normals[few] != table.normals[many] & few:
            return Choosy(many, few)
    return Settled(Order([last_holding(rests, 1 << day) for day in range(table.days)]))


def last_holding(rests, day_set):
    """Return the number of the last of some rests, of which each holds the next one, that holds a day set."""
    return len([rest for rest in rests if within(day_set, rest)]) - 1


def settle_fault(table, answer):
    """Return None if a Settled or a Choosy is right for a table, otherwise a word."""
    if isinstance(answer, Choosy):
        return choosy_fault(table, answer.many, answer.few)
    order = answer.order
    if not isinstance(order, Order) or len(order) != table.days:
        return "order"
    return None if Table.of_order(order) == table else "normal"


def choosy_fault(table, many, few):
    """Return None if two day sets show that a table is no order's, otherwise a word."""
    highest = len(table.normals) - 1
    if not is_whole(many, 1, highest) or not is_whole(few, 1, highest) or not within(few, many):
        return "few"
    shared = table.normals[many] & few
    if shared == 0:
        return "shared"
    return "same" if table.normals[few] == shared else None
