"""What the least order of a book expects."""

from usualdays.checks import check_days
from usualdays.errors import NoOrder
from usualdays.lifting import Stuck, lift


def least_order(book, *further):
    """Return the least order that keeps the book and further sayings."""
    found = lift(book, *further)
    if isinstance(found, Stuck):
        raise NoOrder(found)
    return found.order


def expects(book, saying, *further):
    """Tell whether the least order of the book and further sayings keeps a saying."""
    check_days(book.marks, [saying])
    return least_order(book, *further).keeps(saying)
