"""Sentences: what is true on some days and not on others."""

from usualdays.errors import BadMarks, BadParts
from usualdays.marks import name_fault


class Sentence:
    """What all sentences are; the signs &, | and ~ build larger ones."""

    def __and__(self, other):
        return Both((self, other))

    def __or__(self, other):
        return Either((self, other))

    def __invert__(self):
        return Not(self)


class Mark(Sentence):
    """True on the days on which one mark is yes."""

    def __init__(self, name):
        fault = name_fault(name)
        if fault is not None:
            raise BadMarks(fault, None)
        self.name = name

    def true_days(self, marks):
        """Return the day set of the days on which the sentence is true."""
        return marks.days_with(self.name)

    def text(self):
        """Return the text of the sentence."""
        return self.name

    def __eq__(self, other):
        return isinstance(other, Mark) and self.name == other.name


class Not(Sentence):
    """True where its part is not."""

    def __init__(self, part):
        if not isinstance(part, Sentence):
            raise BadParts()
        self.part = part

    def true_days(self, marks):
        """Return the day set of the days on which the sentence is true."""
        return marks.all_days & ~self.part.true_days(marks)

    def text(self):
        """Return the text of the sentence."""
        return f"not {text_in_both(self.part)}"

    def __eq__(self, other):
        return isinstance(other, Not) and self.part == other.part


class Both(Sentence):
    """True where all parts are."""

    def __init__(self, parts):
        check_parts(parts)
        self.parts = tuple(parts)

    def true_days(self, marks):
        """Return the day set of the days on which the sentence is true."""
        day_set = marks.all_days
        for part in self.parts:
            day_set = day_set & part.true_days(marks)
        return day_set

    def text(self):
        """Return the text of the sentence."""
        return " and ".join([text_in_both(part) for part in self.parts])

    def __eq__(self, other):
        return isinstance(other, Both) and self.parts == other.parts


class Either(Sentence):
    """True where some part is."""

    def __init__(self, parts):
        check_parts(parts)
        self.parts = tuple(parts)

    def true_days(self, marks):
        """Return the day set of the days on which the sentence is true."""
        day_set = 0
        for part in self.parts:
            day_set = day_set | part.true_days(marks)
        return day_set

    def text(self):
        """Return the text of the sentence."""
        return " or ".join([text_in_either(part) for part in self.parts])

    def __eq__(self, other):
        return isinstance(other, Either) and self.parts == other.parts


class Always(Sentence):
    """True on every day."""

    def true_days(self, marks):
        """Return the day set of the days on which the sentence is true."""
        return marks.all_days

    def text(self):
        """Return the text of the sentence."""
        return "any"

    def __eq__(self, other):
        return isinstance(other, Always)


class Never(Sentence):
    """True on no day."""

    def true_days(self, marks):
        """Return the day set of the days on which the sentence is true."""
        return 0

    def text(self):
        """Return the text of the sentence."""
        return "never"

    def __eq__(self, other):
        return isinstance(other, Never)


def check_parts(parts):
    """Raise BadParts unless these are at least two sentences."""
    if not isinstance(parts, (list, tuple)) or len(parts) < 2:
        raise BadParts()
    for part in parts:
        if not isinstance(part, Sentence):
            raise BadParts()


def text_in_both(part):
    """Return the text of a part of a Not or a Both."""
    if isinstance(part, (Both, Either)):
        return f"({part.text()})"
    return part.text()


def text_in_either(part):
    """Return the text of a part of an Either."""
    if isinstance(part, Either):
        return f"({part.text()})"
    return part.text()


def names_in(sentence):
    """Return the names of the marks of a sentence, each once, as they first stand in its text."""
    if isinstance(sentence, Mark):
        return (sentence.name,)
    if isinstance(sentence, Not):
        return names_in(sentence.part)
    names = []
    if isinstance(sentence, (Both, Either)):
        for part in sentence.parts:
            names.extend([name for name in names_in(part) if name not in names])
    return tuple(names)
