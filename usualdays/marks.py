"""The marks: up to four names, each of which is yes or no on a day."""

from usualdays.errors import BadMarks, NoDay, NoMark
from usualdays.ratios import is_whole

KEPT_WORDS = ("and", "any", "marks", "need", "never", "not", "or", "usually", "where")
MOST_MARKS = 4
LONGEST_NAME = 8


def name_fault(name):
    """Return None for a possible name of a mark, otherwise the word for its fault."""
    if not isinstance(name, str) or not 1 <= len(name) <= LONGEST_NAME:
        return "name"
    if not all(["a" <= letter <= "z" for letter in name]):
        return "name"
    if name in KEPT_WORDS:
        return "kept"
    return None


def check_names(names):
    """Raise BadMarks unless these are names of marks."""
    if not isinstance(names, (list, tuple)) or not 1 <= len(names) <= MOST_MARKS:
        raise BadMarks("count", None)
    for index, name in enumerate(names):
        fault = name_fault(name)
        if fault is not None:
            raise BadMarks(fault, index)
        if name in names[:index]:
            raise BadMarks("twice", index)


class Marks:
    """One to four marks; the mark at place k counts 2 ** k in the number of a day."""

    def __init__(self, names):
        check_names(names)
        self.names = tuple(names)
        self.count = len(names)
        self.days = 1 << self.count
        self.all_days = (1 << self.days) - 1

    def day(self, *names):
        """Return the day on which exactly these marks are yes."""
        number = 0
        for name in names:
            number = number | 1 << self._place(name)
        return number

    def names_on(self, day):
        """Return the marks that are yes on a day, in the order of the marks."""
        self._check_day(day)
        return tuple([name for place, name in enumerate(self.names) if day >> place & 1])

    def label(self, day):
        """Return "+" for each mark that is yes on a day and "-" for each other one."""
        self._check_day(day)
        return "".join(["+" if day >> place & 1 else "-" for place in range(self.count)])

    def days_with(self, name):
        """Return the day set of the days on which a mark is yes."""
        place = self._place(name)
        day_set = 0
        for day in range(self.days):
            if day >> place & 1:
                day_set = day_set | 1 << day
        return day_set

    def _place(self, name):
        for place, known in enumerate(self.names):
            if known == name:
                return place
        raise NoMark(name)

    def _check_day(self, day):
        if not is_whole(day, 0, self.days - 1):
            raise NoDay(day)

    def __eq__(self, other):
        return isinstance(other, Marks) and self.names == other.names
