"""The errors of the package: DaysError, and all others directly under it."""


class DaysError(ValueError):
    """What all errors of this package are."""

    def __init__(self):
        pass


class BadRatio(DaysError):
    """A ratio with 0 below the line."""

    def __init__(self):
        pass


class BadMarks(DaysError):
    """Names that cannot be marks, or one name that cannot be a mark."""

    def __init__(self, what, index):
        self.what = what
        self.index = index


class NoMark(DaysError):
    """A name that is not one of the marks."""

    def __init__(self, name):
        self.name = name


class NoDay(DaysError):
    """A thing that is not one of the days."""

    def __init__(self, day):
        self.day = day


class BadParts(DaysError):
    """Parts that cannot make a sentence."""

    def __init__(self):
        pass


class BadSentence(DaysError):
    """A text that is not a sentence, and the place at which it fails."""

    def __init__(self, what, at):
        self.what = what
        self.at = at


class BadSaying(DaysError):
    """Values that do not make a saying."""

    def __init__(self, what):
        self.what = what


class BadVerdicts(DaysError):
    """Day sets that do not make verdicts."""

    def __init__(self):
        pass


class BadBook(DaysError):
    """Values that do not make a book."""

    def __init__(self, what, number):
        self.what = what
        self.number = number


class NoSaying(DaysError):
    """A thing that is not the number of a saying."""

    def __init__(self, number):
        self.number = number


class BadLot(DaysError):
    """A thing that is not a lot."""

    def __init__(self):
        pass


class OtherDays(DaysError):
    """Days or marks that do not belong to those at hand."""

    def __init__(self):
        pass


class NeedNot(DaysError):
    """A "need not" saying where only "usually" may stand; None stands for a further saying."""

    def __init__(self, number):
        self.number = number


class BadRow(DaysError):
    """A row of a text that cannot be read."""

    def __init__(self, row, what):
        self.row = row
        self.what = what


class BadOrder(DaysError):
    """Layers that do not make an order."""

    def __init__(self, what):
        self.what = what


class BadStart(DaysError):
    """A start that is not layers."""

    def __init__(self):
        pass


class TooMany(DaysError):
    """More things than a function takes."""

    def __init__(self, count):
        self.count = count


class BadDays(DaysError):
    """A thing that is not a nonempty day set of the marks."""

    def __init__(self):
        pass


class BadWeights(DaysError):
    """Numbers that do not make weights."""

    def __init__(self, what):
        self.what = what


class BadBounds(DaysError):
    """Things that are not bounds of a book."""

    def __init__(self, what, number):
        self.what = what
        self.number = number


class BadStep(DaysError):
    """A step that is not a whole number of the kind asked for."""

    def __init__(self, number):
        self.number = number


class BadTask(DaysError):
    """Values that do not make a task."""

    def __init__(self, what):
        self.what = what


class NoOrder(DaysError):
    """A book that no order keeps, with the stuck days that show it."""

    def __init__(self, stuck):
        self.stuck = stuck


class BadTable(DaysError):
    """Normal days that do not make a table."""

    def __init__(self, what, day_set):
        self.what = what
        self.day_set = day_set


class BadChoice(DaysError):
    """A thing that is not a choice."""

    def __init__(self, index):
        self.index = index


class BadPiece(DaysError):
    """Values that do not make a piece of news."""

    def __init__(self, what):
        self.what = what


class NoPiece(DaysError):
    """A thing that is not the number of a piece of the kind asked for."""

    def __init__(self, number):
        self.number = number


class NoDeed(DaysError):
    """A thing that is not a number of deeds."""

    def __init__(self, number):
        self.number = number


class BadGrades(DaysError):
    """Things that are not grades."""

    def __init__(self):
        pass


class BadForces(DaysError):
    """Things that are not forces."""

    def __init__(self):
        pass


class BadWatchers(DaysError):
    """Books that do not make watchers."""

    def __init__(self, what):
        self.what = what


class StuckAlone(DaysError):
    """A watcher whose own book no order keeps."""

    def __init__(self, who):
        self.who = who


class OtherLook(DaysError):
    """A shared day at which two orders look different."""

    def __init__(self, day):
        self.day = day


class BadWay(DaysError):
    """A thing that is not a way of merging."""

    def __init__(self, way):
        self.way = way


class AlreadyPassed(DaysError):
    """A saying that is passed on already."""

    def __init__(self, number):
        self.number = number


class NotPassed(DaysError):
    """A saying that is not passed on."""

    def __init__(self, number):
        self.number = number


class BadWho(DaysError):
    """A thing that names none of the watchers."""

    def __init__(self, who):
        self.who = who


class BadCosts(DaysError):
    """Things that are not costs."""

    def __init__(self):
        pass


class BadShelf(DaysError):
    """A shelf, wishes or bars that are not few sayings."""

    def __init__(self, what):
        self.what = what


class NoWithdrawal(DaysError):
    """A thing that is not the index of a withdrawal."""

    def __init__(self, index):
        self.index = index


class NothingDone(DaysError):
    """Nothing is there to undo or to redo."""

    def __init__(self):
        pass
