"""Benches as texts: the first book, and a row for each deed."""

from usualdays.bench import Bench
from usualdays.booktext import book_text, read_book, read_saying, saying_text
from usualdays.errors import BadRow

DEED_WORDS = ("put", "take", "mend")
MOST_DIGITS = 4


def bench_text(bench):
    """Return a text from which read_bench reads an equal bench, with nothing undone."""
    marks = bench.first.marks
    return "\n".join([book_text(bench.first)] + [deed_text(marks, deed) for deed in bench.deeds])


def deed_text(marks, deed):
    """Return the row of a deed."""
    word, number, told = deed
    if word == "put":
        return f"put {saying_text(marks, told)}"
    return f"{word} {number}"


def read_bench(text):
    """Return the bench that a text says."""
    if not isinstance(text, str):
        raise BadRow(0, "text")
    rows = text.split("\n")
    first = first_deed(rows)
    bench = Bench(read_book("\n".join(rows[:first])))
    for row, deed in enumerate(rows[first:], start=first + 1):
        do_deed(bench, deed, row)
    return bench


def word_of(text):
    """Return what stands before the first space of a row."""
    return text.split(" ")[0]


def first_deed(rows):
    """Return the place of the first row that is a deed's, or how many rows there are."""
    for place, text in enumerate(rows):
        if word_of(text) in DEED_WORDS:
            return place
    return len(rows)


def do_deed(bench, text, row):
    """Do the deed that a row says."""
    word, _, rest = text.partition(" ")
    if word not in DEED_WORDS:
        raise BadRow(row, "deed")
    if word == "put":
        bench.put(read_saying(bench.first.marks, rest, row))
    elif word == "take":
        bench.take(number_told(rest, row))
    else:
        bench.mend(number_told(rest, row))


def number_told(text, row):
    """Return the number that a text says; BadRow if it says none."""
    if not 1 <= len(text) <= MOST_DIGITS or not all(["0" <= sign <= "9" for sign in text]):
        raise BadRow(row, "number")
    if len(text) > 1 and text.startswith("0"):
        raise BadRow(row, "number")
    return int(text)
