"""Derivations: showing step by step that a book yields a saying."""

from usualdays.daysets import within
from usualdays.lots import sharp_lot
from usualdays.ratios import is_whole
from usualdays.sayings import Saying

# How many lines each rule has.
RULES = {"given": 1, "itself": 0, "weaker": 1, "joined": 2, "cautious": 2}


class Step:
    """A "usually" with the rule by which it holds and the numbers that the rule uses."""

    def __init__(self, rule, lines, saying):
        self.rule = rule
        self.lines = lines
        self.saying = saying


def derivation_fault(book, steps):
    """Return None if every step is right, otherwise the number of the first wrong one and a word."""
    for number, step in enumerate(steps):
        word = step_fault(book, steps[:number], step)
        if word is not None:
            return (number, word)
    return None


def step_fault(book, earlier, step):
    """Return None if a step is right behind the earlier ones, otherwise a word."""
    if step.rule not in RULES:
        return "rule"
    if not has_lines(book, earlier, step):
        return "lines"
    if not step.saying.usual:
        return "kind"
    if not follows(book, earlier, step):
        return "saying"
    return None


def has_lines(book, earlier, step):
    """Tell whether the lines of a step are as many as its rule wants, and name what is there."""
    if len(step.lines) != RULES[step.rule]:
        return False
    if step.rule == "given":
        number = step.lines[0]
        return is_whole(number, 0, len(book) - 1) and book[number].usual
    return all([is_whole(line, 0, len(earlier) - 1) for line in step.lines])


def follows(book, earlier, step):
    """Tell whether the saying of a step is as its rule says."""
    saying = step.saying
    if step.rule == "given":
        return same_days(saying, book[step.lines[0]])
    if step.rule == "itself":
        return saying.broken == 0
    one = earlier[step.lines[0]].saying
    if step.rule == "weaker":
        return saying.where == one.where and within(one.confirm, saying.confirm)
    other = earlier[step.lines[1]].saying
    if step.rule == "joined":
        return same_days(saying, joined_saying(one, other))
    if one.where != other.where:
        return False
    return saying.where == one.confirm and saying.confirm == one.confirm & other.confirm


def same_days(one, other):
    """Tell whether two sayings have the same where and the same confirming days."""
    return one.where == other.where and one.confirm == other.confirm


def joined_saying(one, other):
    """Return the "usually" that is broken where one of two is, on the days of both together."""
    where = one.where | other.where
    return Saying(where, where & ~(one.broken | other.broken))


def resting(steps):
    """Return for each step of a right derivation the lot of the givens on which it rests."""
    lots = []
    for step in steps:
        lot = rests_on(step, lots)
        lots.append(lot)
    return tuple(lots)


def rests_on(step, lots):
    """Return the lot of a step, given the lots of the earlier ones."""
    if step.rule == "given":
        return tuple(step.lines)
    return tuple(sorted({number for line in step.lines for number in lots[line]}))


def derivation(book, saying):
    """Return a right derivation of a saying, or None if the book does not yield it; sharp_lot raises the errors."""
    lot = sharp_lot(book, saying)
    if lot is None:
        return None
    aim = Saying(saying.where, saying.confirm)
    if not lot:
        return (Step("itself", (), aim),)
    steps = joining_steps(book, lot)
    return tuple(steps + narrowing_steps(steps, aim))


def joining_steps(book, lot):
    """Return the steps that join the sayings of a lot of the book, one after the other."""
    steps = []
    for number in lot:
        given = Saying(book[number].where, book[number].confirm)
        steps.append(Step("given", (number,), given))
        end = len(steps) - 1
        if end > 0:
            both = joined_saying(steps[end - 1].saying, given)
            steps.append(Step("joined", (end - 1, end), both))
    return steps


def narrowing_steps(steps, aim):
    """Return the steps from a sharp saying, the last of some steps, to the saying that it is sharp for.

    Joined with "where W, usually W" it speaks of all days of W, and what it confirms lies within W. So
    it can be narrowed to W by "cautious".
    """
    end = len(steps)
    itself = Saying(aim.where, aim.where)
    wide = joined_saying(steps[-1].saying, itself)
    return [
        Step("itself", (), itself),
        Step("joined", (end - 1, end), wide),
        Step("weaker", (end + 1,), Saying(wide.where, aim.where)),
        Step("cautious", (end + 2, end + 1), Saying(aim.where, wide.confirm)),
        Step("weaker", (end + 3,), aim),
    ]
