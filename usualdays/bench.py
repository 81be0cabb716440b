"""A bench: a book that changes by deeds, which can be undone, redone and tried."""

from usualdays.books import Book
from usualdays.errors import NoSaying, NothingDone, NoWithdrawal
from usualdays.lifting import lift
from usualdays.ratios import is_number, is_whole
from usualdays.strife import strife


class State:
    """What lies on a bench behind some deeds, the next number to be given, and the state before the last deed."""

    def __init__(self, rows, next_number, deeds, before):
        self.rows = rows
        self.next_number = next_number
        self.deeds_done = deeds
        self.before = before


class Trial:
    """A block behind which a bench is as it was before it."""

    def __init__(self, bench):
        self.bench = bench
        self.state = None
        self.undone = None

    def __enter__(self):
        self.state = self.bench._state
        self.undone = self.bench._undone
        return self.bench

    def __exit__(self, kind, value, trace):
        bench = self.bench
        bench._state = self.state
        bench._undone = self.undone
        return False


class Bench:
    """A changing object: numbered sayings, and the deeds that were done with them."""

    def __init__(self, book):
        self.first = book
        # States never change; so the one before a deed serves to undo it, and the one behind it to redo it.
        self._state = State(tuple(enumerate(book)), len(book), (), None)
        self._undone = ()

    @property
    def now(self):
        """The book of the sayings on the bench."""
        return Book(self.first.marks, [saying for _, saying in self._state.rows])

    @property
    def deeds(self):
        """The deeds in force."""
        return self._state.deeds_done

    def __len__(self):
        return len(self._state.rows)

    def __iter__(self):
        return iter(self._state.rows)

    def put(self, saying):
        """Add a saying, and return its number."""
        # This raises the errors of a book.
        self.now.with_saying(saying)
        number = self._state.next_number
        self._do(("put", number, saying), self._state.rows + ((number, saying),), number + 1)
        return number

    def take(self, number):
        """Remove a saying, and return it."""
        found = [saying for own, saying in self._state.rows if own == number]
        # True equals 1, but is no number.
        if not found or not is_number(number):
            raise NoSaying(number)
        taken = found[0]
        self._do(("take", number, taken), self._rows_without((number,)), self._state.next_number)
        return taken

    def mend(self, index):
        """Remove the sayings of a withdrawal, and return their numbers."""
        lots = self.withdrawal_lots()
        if not is_whole(index, 0, len(lots) - 1):
            raise NoWithdrawal(index)
        numbers = lots[index]
        self._do(("mend", index, numbers), self._rows_without(numbers), self._state.next_number)
        return numbers

    def undo(self):
        """Take back the last deed, and return it."""
        last = self._state
        if last.before is None:
            raise NothingDone()
        self._state = last.before
        self._undone = self._undone + (last,)
        return last.deeds_done[-1]

    def redo(self):
        """Do again what was undone last, and return it."""
        if not self._undone:
            raise NothingDone()
        self._state = self._undone[-1]
        self._undone = self._undone[:-1]
        return self._state.deeds_done[-1]

    def quarrel_lots(self):
        """Return the lots of all quarrels in the numbers of the bench."""
        return tuple([self._numbers_of(lot) for lot, _ in strife(self.now).quarrels])

    def withdrawal_lots(self):
        """Return the lots of all withdrawals in the numbers of the bench."""
        return tuple([self._numbers_of(lot) for lot, _ in strife(self.now).withdrawals])

    def trial(self):
        """Return what a "with" takes to take back all that is done in its block."""
        return Trial(self)

    def _do(self, deed, rows, next_number):
        self._state = State(rows, next_number, self._state.deeds_done + (deed,), self._state)
        self._undone = ()

    def _rows_without(self, numbers):
        return tuple([(own, saying) for own, saying in self._state.rows if own not in numbers])

    def _numbers_of(self, lot):
        return tuple([self._state.rows[place][0] for place in lot])


def on_trial(bench, task):
    """Call a task with a bench within a trial, and return what it returns."""
    with bench.trial():
        return task(bench)


def promised(bench, sayings):
    """Return what lift would return for the book on a bench with some more sayings."""
    with bench.trial():
        for saying in sayings:
            bench.put(saying)
        return lift(bench.now)
