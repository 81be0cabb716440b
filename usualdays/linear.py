"""Exact tasks: the greatest value of a sum under conditions, with numbers that show that it is the greatest."""

from usualdays.errors import BadTask
from usualdays.ratios import compare_ratios, is_number, ratio, ratio_product, ratio_sum

MOST_PLACES = 16
MOST_ROWS = 16
# Where the rows of the unit and of the gains stand in a tableau.
UNIT = -2
GAINS = -1


def is_sequence(thing, least, most):
    """Tell whether a thing is a list or tuple of so many things."""
    return isinstance(thing, (list, tuple)) and least <= len(thing) <= most


def is_row(thing, places):
    """Tell whether a thing is a list or tuple of so many whole numbers."""
    return is_sequence(thing, places, places) and all([is_number(number) for number in thing])


def check_task(goal, unit, rows):
    """Raise BadTask unless these make a task."""
    if not is_sequence(goal, 1, MOST_PLACES) or not is_row(goal, len(goal)):
        raise BadTask("goal")
    if not is_row(unit, len(goal)) or min(unit) < 0:
        raise BadTask("unit")
    if not is_sequence(rows, 0, MOST_ROWS) or not all([is_row(row, len(goal)) for row in rows]):
        raise BadTask("rows")
    if any([worth == 0 and wish > 0 for wish, worth in zip(goal, unit)]):
        raise BadTask("bound")


class Task:
    """Asks for numbers x of at least 0 with unit . x = 1 and each row . x at most 0, and the greatest goal . x."""

    def __init__(self, goal, unit, rows):
        check_task(goal, unit, rows)
        self.goal = tuple(goal)
        self.unit = tuple(unit)
        self.rows = tuple([tuple(row) for row in rows])

    def __eq__(self, other):
        return (isinstance(other, Task) and self.goal == other.goal
                and self.unit == other.unit and self.rows == other.rows)


class Top:
    """The greatest value, a point at which it is reached, and multipliers that show that there is none greater."""

    def __init__(self, value, point, multipliers):
        self.value = value
        self.point = point
        self.multipliers = multipliers


class Barred:
    """Multipliers that show that there are no numbers as a task asks for."""

    def __init__(self, multipliers):
        self.multipliers = multipliers


class Tableau:
    """A task on the way to its solution; all its numbers stand for themselves divided by scale.

    Each row has a column for each place, one for the slack of each row of the task, and at last its
    right side. Behind the rows of the task come that of the unit and that of the gains: what the goal
    gains by one more in a column. The basis has the column that each row but the last is solved for,
    and at first, for the unit, a number behind all columns.
    """

    def __init__(self, task):
        many = len(task.rows)
        self.places = len(task.goal)
        self.columns = self.places + many
        rows = [list(row) + slack(number, many) + [0] for number, row in enumerate(task.rows)]
        rows.append(list(task.unit) + [0] * many + [1])
        rows.append(list(task.goal) + [0] * many + [0])
        self.rows = rows
        self.basis = list(range(self.places, self.columns + 1))
        self.scale = 1

    def has_unit(self):
        """Tell whether the row of the unit is solved for a place or a slack."""
        return self.basis[-1] < self.columns

    def gaining(self, number):
        """Return the first column with a number above 0 in a row, or None.

        To take the first one here and below lets no basis come again, also where all rows are tied.
        """
        for column in range(self.columns):
            if self.rows[number][column] > 0:
                return column
        return None

    def leaving(self, column):
        """Return the row that bounds a column most, of those that are tied the one of the first basis column."""
        best = None
        for number, basic in enumerate(self.basis):
            if self.rows[number][column] <= 0:
                continue
            if best is None:
                best = number
                continue
            sign = self.compare_bounds(number, best, column)
            if sign < 0 or sign == 0 and basic < self.basis[best]:
                best = number
        return best

    def compare_bounds(self, one, other, column):
        """Return a number below, equal to or above 0 as the first row bounds a column more, alike or less."""
        first, second = self.rows[one], self.rows[other]
        return first[-1] * second[column] - second[-1] * first[column]

    def pivot(self, column):
        """Solve the row that bounds a column most for this column; the division by the old scale has no rest."""
        place = self.leaving(column)
        chosen = self.rows[place]
        factor = chosen[column]
        solved = []
        for number, row in enumerate(self.rows):
            if number == place:
                solved.append(row)
                continue
            share = row[column]
            solved.append([(mine * factor - share * theirs) // self.scale for mine, theirs in zip(row, chosen)])
        self.rows = solved
        self.basis[place] = column
        self.scale = factor

    def value_reached(self):
        """Return the value of the goal."""
        return ratio(-self.rows[GAINS][-1], self.scale)

    def solution(self):
        """Return the number for each place."""
        found = [(0, 1)] * self.places
        for number, column in enumerate(self.basis):
            if column < self.places:
                found[column] = ratio(self.rows[number][-1], self.scale)
        return tuple(found)

    def proof(self, number):
        """Return the multipliers by which a row has come about that has no number above 0."""
        return tuple([ratio(-entry, self.scale) for entry in self.rows[number][self.places:self.columns]])


def slack(number, many):
    """Return the slack columns of a row: 1 for its own slack."""
    return [1 if place == number else 0 for place in range(many)]


def solve(task):
    """Return Top with the greatest value, or Barred if there are no such numbers."""
    table = Tableau(task)
    while not table.has_unit():
        column = table.gaining(UNIT)
        if column is None:
            return Barred(table.proof(UNIT))
        table.pivot(column)
    column = table.gaining(GAINS)
    while column is not None:
        table.pivot(column)
        column = table.gaining(GAINS)
    return Top(table.value_reached(), table.solution(), table.proof(GAINS))


def dot(numbers, ratios):
    """Return the sum of the products of whole numbers and ratios, place by place, as a ratio."""
    total = (0, 1)
    for number, part in zip(numbers, ratios):
        total = ratio_sum(total, ratio_product((number, 1), part))
    return total


def has_negative(ratios):
    """Tell whether one of some ratios is below 0."""
    return any([compare_ratios(part, (0, 1)) < 0 for part in ratios])


def bars(task, goal, value, multipliers):
    """Tell whether multipliers show that no goal . x is above value: goal <= value * unit + y . rows everywhere."""
    for place, wish in enumerate(goal):
        column = [row[place] for row in task.rows]
        most = ratio_sum(dot(column, multipliers), ratio_product((task.unit[place], 1), value))
        if compare_ratios((wish, 1), most) > 0:
            return False
    return True


def bars_value(task, value, multipliers):
    """Tell whether multipliers show that no value of a task is above this one."""
    return bars(task, task.goal, value, multipliers)


def bars_all(task, multipliers):
    """Tell whether multipliers show that there are no numbers as a task asks for."""
    return bars(task, task.unit, (0, 1), multipliers)


def barred_fault(task, answer):
    """Return None if the multipliers of an answer show that a task is barred, otherwise a word."""
    if len(answer.multipliers) != len(task.rows):
        return "count"
    if has_negative(answer.multipliers):
        return "sign"
    return None if bars_all(task, answer.multipliers) else "bar"


def solve_fault(task, answer):
    """Return None if a Top or a Barred is right for a task, otherwise a word."""
    if isinstance(answer, Barred):
        return barred_fault(task, answer)
    if len(answer.point) != len(task.goal) or len(answer.multipliers) != len(task.rows):
        return "count"
    if has_negative(answer.point) or has_negative(answer.multipliers):
        return "sign"
    if compare_ratios(dot(task.unit, answer.point), (1, 1)) != 0:
        return "unit"
    if any([compare_ratios(dot(row, answer.point), (0, 1)) > 0 for row in task.rows]):
        return "rows"
    if compare_ratios(dot(task.goal, answer.point), answer.value) != 0:
        return "value"
    return None if bars_value(task, answer.value, answer.multipliers) else "bar"
