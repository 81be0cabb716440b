"""What a book tells: what every order that keeps it keeps."""

from usualdays.checks import check_days
from usualdays.liftjudge import stuck_fault
from usualdays.lifting import Stuck, lift


class Told:
    """The book tells the saying: no order keeps the book and the contrary."""

    def __init__(self, stuck):
        self.stuck = stuck


class NotTold:
    """The book does not tell the saying: the order keeps the book and not the saying."""

    def __init__(self, order):
        self.order = order


def tell(book, saying):
    """Decide whether a book tells a saying."""
    found = lift(book, saying.contrary())
    if isinstance(found, Stuck):
        return Told(found)
    return NotTold(found.order)


def tells(book, saying):
    """Tell whether a book tells a saying."""
    return isinstance(tell(book, saying), Told)


def tells_all(book, sayings):
    """Tell whether a book tells all of some sayings."""
    return all([tells(book, saying) for saying in sayings])


def tell_fault(book, saying, answer):
    """Return None if an answer of tell is right, otherwise a word."""
    check_days(book.marks, [saying])
    if isinstance(answer, Told):
        return "stuck" if stuck_fault(book, answer.stuck, saying.contrary()) is not None else None
    if not isinstance(answer, NotTold):
        return "answer"
    if len(answer.order) != book.marks.days:
        return "days"
    if not answer.order.keeps_all(book):
        return "book"
    if answer.order.keeps(saying):
        return "saying"
    return None


def standing(book, saying):
    """Return "all", "told", "barred" or "open"."""
    check_days(book.marks, [saying])
    if isinstance(lift(book), Stuck):
        return "all"
    if tells(book, saying):
        return "told"
    if tells(book, saying.contrary()):
        return "barred"
    return "open"
