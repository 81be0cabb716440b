"""Merging two orders of the same days."""

from usualdays.errors import BadWay, OtherDays
from usualdays.orders import Order

WAYS = ("lower", "higher", "first")


def check_way(way):
    """Raise BadWay unless this is a way of merging."""
    if way not in WAYS:
        raise BadWay(way)


def merge_orders(way, first, second):
    """Return the merge of two orders."""
    if len(first) != len(second):
        raise OtherDays()
    check_way(way)
    if way == "lower":
        return first & second
    pairs = list(zip(first.layers, second.layers))
    if way == "higher":
        return Order.lowered([max(pair) for pair in pairs])
    different = sorted(set(pairs))
    places = {pair: place for place, pair in enumerate(different)}
    return Order([places[pair] for pair in pairs])
