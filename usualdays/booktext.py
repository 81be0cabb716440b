"""Sayings and books as texts."""

from usualdays.books import MOST_SAYINGS, Book
from usualdays.errors import BadMarks, BadRow, BadSentence, NoMark
from usualdays.marks import Marks
from usualdays.reader import read_sentence
from usualdays.sayings import Saying
from usualdays.writer import sentence_of

WHERE = "where "
USUALLY = " usually "
NEED_NOT = " need not "
MARKS = "marks "


def saying_text(marks, saying):
    """Return a text that read_saying reads back as an equal saying; sentence_of refuses days that do not fit."""
    kind = USUALLY if saying.usual else NEED_NOT
    condition = sentence_of(marks, saying.where).text()
    conclusion = sentence_of(marks, saying.then).text()
    return f"{WHERE}{condition}{kind}{conclusion}"


def kind_in(text):
    """Return the first word for a kind that a text contains, with its spaces, or None."""
    usually = text.find(USUALLY)
    need_not = text.find(NEED_NOT)
    if usually < 0 and need_not < 0:
        return None
    if need_not < 0 or 0 <= usually < need_not:
        return USUALLY
    return NEED_NOT


def days_told(marks, text, row, what):
    """Return the days on which the sentence of a text is true; BadRow with a word if there is none."""
    try:
        return read_sentence(text).true_days(marks)
    except (BadSentence, NoMark):
        raise BadRow(row, what) from None


def read_saying(marks, text, row=1):
    """Return the saying that a text says; the row is only told in errors."""
    if not isinstance(text, str):
        raise BadRow(row, "text")
    if not text.startswith(WHERE):
        raise BadRow(row, "where")
    rest = text[len(WHERE):]
    kind = kind_in(rest)
    if kind is None:
        raise BadRow(row, "kind")
    condition, _, conclusion = rest.partition(kind)
    where = days_told(marks, condition, row, "condition")
    if where == 0:
        raise BadRow(row, "never")
    then = days_told(marks, conclusion, row, "conclusion")
    return Saying(where, then, kind == USUALLY)


def book_text(book):
    """Return a text that read_book reads back as an equal book."""
    first = MARKS + " ".join(book.marks.names)
    return "\n".join([first] + [saying_text(book.marks, saying) for saying in book])


def read_marks(text):
    """Return the marks that the first row of a book names."""
    if not text.startswith(MARKS):
        raise BadRow(1, "marks")
    try:
        return Marks(text[len(MARKS):].split(" "))
    except BadMarks:
        raise BadRow(1, "marks") from None


def read_book(text):
    """Return the book that a text says."""
    if not isinstance(text, str):
        raise BadRow(0, "text")
    rows = text.split("\n")
    marks = read_marks(rows[0])
    if len(rows) > MOST_SAYINGS + 1:
        raise BadRow(MOST_SAYINGS + 2, "count")
    return Book(marks, [read_saying(marks, row, place + 2) for place, row in enumerate(rows[1:])])
