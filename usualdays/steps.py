"""Big steps: weights by which a more normal day outweighs all days above it, and orders by weights."""

from usualdays.errors import BadStep
from usualdays.orders import Order
from usualdays.ratios import is_number
from usualdays.weights import Weights


def big_steps(layers, step):
    """Return the weights that grow by the factor step from each layer to the next lower one; None weighs 0.

    Weights itself refuses layers that are all None.
    """
    if not is_number(step) or step < 1:
        raise BadStep(step)
    worth = {None: 0}
    power = 1
    for layer in reversed(sorted({layer for layer in layers if layer is not None})):
        worth[layer] = power
        power = power * step
    return Weights([worth[layer] for layer in layers])


def order_by_weights(weights):
    """Return the order in which heavier days lie lower."""
    different = sorted(set(weights.numbers))
    return Order([len([more for more in different if more > number]) for number in weights])
