"""Exact tasks: points 5.7 to 5.9."""

import itertools
import signal
from fractions import Fraction

from tests.helpers import STRANGE, Case, as_ratio, seeded
from usualdays.errors import BadTask
from usualdays.linear import Barred, Task, Top, solve, solve_fault

GREAT = 10 ** 30 - 1
# Tasks that go in rings, in some turn of their places and rows, with other rules than the one that is used:
# with the greatest or the last gain, or with the first gain and the first or the last of the rows that are tied.
RINGS = (
    ([2, 2, -8, -2, 0], [1, 1, 1, 1, 10 ** 6], [[-7, -3, 7, 2, 0], [2, 1, -3, -1, 0], [1, 1, 1, 1, -1]], (0, 1)),
    ([2, -3, 5, -3, 5, -3], [1, 7, 1, 1, 1, 1],
     [[-1, -3, 5, -4, -5, -2], [0, -2, 2, 0, 0, -5], [1, 1, 1, -2, 4, -5], [5, 2, 5, 0, 4, -3], [4, 0, 3, -5, 2, 5]],
     (-21, 25)),
    ([4, -4, -5, -2, -5, -4, -1], [3, 1, 8, 1, 7, 1, 1],
     [[5, 4, 5, 1, 3, 1, 4], [5, -4, 0, 5, -1, -2, -1], [-5, -3, -5, -2, -1, -2, 2]], None),
    ([3, 0, -3, -4, -5], [1, 3, 2, 2, 9],
     [[-2, -5, 0, -1, -5], [3, 0, 4, -5, 0], [-3, -3, -1, -2, -2], [-2, 4, -2, 2, 3]], (3, 11)),
    ([0, -4, 3, 1, 4], [3, 1, 3, 1, 4], [[1, 5, 0, -4, 3], [-1, -4, 2, -2, 2], [4, 1, 2, -1, -1], [4, -2, -1, 3, 1]],
     None),
    ([-1, 2, 1, -1, 2, 0], [5, 1, 2, 1, 1, 7], [[2, -1, -1, -1, 2, 1], [-1, 0, 1, 2, 0, 2], [0, 1, 0, -2, 0, 1]], None),
)


def plain_dot(numbers, ratios):
    return sum((number * Fraction(*part) for number, part in zip(numbers, ratios)), Fraction(0))


def plain_word(task, answer):
    """The first word for an answer, by the words of the points 5.8 and 5.9."""
    columns = [[row[place] for row in task.rows] for place in range(len(task.goal))]
    y = answer.multipliers
    if len(y) != len(task.rows) or isinstance(answer, Top) and len(answer.point) != len(task.goal):
        return "count"
    x = answer.point if isinstance(answer, Top) else ()
    if any(top < 0 for top, _ in tuple(x) + tuple(y)):
        return "sign"
    if isinstance(answer, Barred):
        fits = [worth <= plain_dot(column, y) for worth, column in zip(task.unit, columns)]
        return None if all(fits) else "bar"
    if plain_dot(task.unit, x) != 1:
        return "unit"
    if any(plain_dot(row, x) > 0 for row in task.rows):
        return "rows"
    value = Fraction(*answer.value)
    if plain_dot(task.goal, x) != value:
        return "value"
    fits = [wish <= value * worth + plain_dot(column, y) for wish, worth, column in zip(task.goal, task.unit, columns)]
    return None if all(fits) else "bar"


def crossing(planes):
    """The one point on as many planes as it has places, each its numbers and at last its right side, or None."""
    rows = [[Fraction(number) for number in plane] for plane in planes]
    for place in range(len(rows)):
        found = [row for row in rows[place:] if row[place] != 0]
        if not found:
            return None
        rows.remove(found[0])
        rows.insert(place, [number / found[0][place] for number in found[0]])
        for other, row in enumerate(rows):
            if other != place:
                rows[other] = [a - row[place] * b for a, b in zip(row, rows[place])]
    return [row[-1] for row in rows]


def plain_best(task):
    """The greatest value by going through all corners, or None; for small tasks."""
    many = len(task.goal)
    unit = list(task.unit) + [1]
    axes = [[int(place == own) for place in range(many)] + [0] for own in range(many)]
    best = None
    for chosen in itertools.combinations(axes + [list(row) + [0] for row in task.rows], many - 1):
        x = crossing([unit] + [list(plane) for plane in chosen])
        if x is None or min(x) < 0:
            continue
        if any(sum(a * b for a, b in zip(row, x)) > 0 for row in task.rows):
            continue
        value = sum(a * b for a, b in zip(task.goal, x))
        best = value if best is None else max(best, value)
    return best


def some_task(chance, places, rows, size):
    """A task; about one place in four has the unit 0 where the size is small."""
    unit = [chance.randint(0, 3) if size < 10 else chance.randint(1, size) for _ in range(places)]
    goal = [chance.randint(-size, size if worth else 0) for worth in unit]
    lean = chance.choice((size, size // 2, size // 4))
    return Task(goal, unit, [[chance.randint(-size, lean) for _ in range(places)] for _ in range(rows)])


class Tasks(Case):
    def test_5_7_attributes(self):
        task = Task([1, -2], (1, 0), [[3, -4], (0, 0)])
        self.assertEqual((task.goal, task.unit, task.rows), ((1, -2), (1, 0), ((3, -4), (0, 0))))
        for thing in (task.goal, task.unit, task.rows) + task.rows:
            self.assertIs(type(thing), tuple)
        task = Task((GREAT,) * 16, [GREAT] * 16, [[-GREAT] * 16] * 16)
        self.assertEqual(task.rows, ((-GREAT,) * 16,) * 16)
        self.assertEqual(Task([0], [0], []).rows, ())

    def test_5_7_goal(self):
        for thing in STRANGE[:-4] + ({}, -1, [], (), [1] * 17, "1", [True], [1, None], [1.0], ["1"], [[1]], (1, False)):
            self.refuses(BadTask("goal"), Task, thing, [1], [[1]])
            self.refuses(BadTask("goal"), Task, thing, None, None)

    def test_5_7_unit(self):
        for thing in STRANGE + ([], [1], [1] * 3, "11", [1, True], [1, None], [1, -1], [-1, 1], [1, 1.0], {0: 1, 1: 1}):
            self.refuses(BadTask("unit"), Task, [1, 2], thing, [[1, 1]])
            self.refuses(BadTask("unit"), Task, [1, 2], thing, None)

    def test_5_7_rows(self):
        for thing in STRANGE[:-4] + ({}, -1, [1, 1], [[1, 1], [1]], [[1, 1], [1, 1, 1]], [[1, True]], [[1, None]],
                                     [None],
                                     ["11"], [[1, 1.0]], [[1, 1]] * 17, ([1, 1], {0: 1, 1: 1})):
            self.refuses(BadTask("rows"), Task, [1, 2], [1, 1], thing)
            self.refuses(BadTask("rows"), Task, [1, 2], [0, 1], thing)
        for things in ([()], [[]]):
            self.refuses(BadTask("rows"), Task, [1], [1], things)

    def test_5_7_bound(self):
        self.refuses(BadTask("bound"), Task, [1, 1], [1, 0], [])
        self.refuses(BadTask("bound"), Task, [5], [0], [[1]])
        Task([0, 1, -1], [0, 1, 0], [])

    def test_5_7_equal(self):
        self.assertEqual(Task([1, 2], [1, 1], [[1, 1]]), Task((1, 2), (1, 1), ((1, 1),)))
        task = Task([1, 2], [1, 1], [[1, 1]])
        self.differs(task, Task([2, 1], [1, 1], [[1, 1]]), Task([1, 2], [1, 2], [[1, 1]]),
                     Task([1, 2], [1, 1], [[1, 2]]),
                     Task([1, 2], [1, 1], []), Task([1, 2], [1, 1], [[1, 1]] * 2), ((1, 2), (1, 1), ((1, 1),)), None)

    def test_0_5_lists_are_not_kept(self):
        goal, unit, rows = [1, 2], [1, 1], [[1, -1]]
        task = Task(goal, unit, rows)
        rows[0][0] = goal[0] = unit[0] = 9
        rows.append([5, 5])
        self.assertEqual(task, Task((1, 2), (1, 1), ((1, -1),)))


class Solving(Case):
    def setUp(self):
        """What goes in rings fails, instead of going on."""
        def stop(*_):
            raise AssertionError("goes in rings")

        self.before = signal.signal(signal.SIGALRM, stop)
        signal.alarm(240)

    def tearDown(self):
        signal.alarm(0)
        signal.signal(signal.SIGALRM, self.before)

    def solved(self, task):
        answer = solve(task)
        self.assertIsNone(solve_fault(task, answer))
        self.assertIsNone(plain_word(task, answer))
        numbers = [answer.value] + list(answer.point) if isinstance(answer, Top) else []
        for thing in (answer.multipliers,) + ((answer.point,) if numbers else ()):
            self.assertIs(type(thing), tuple)
        for part in numbers + list(answer.multipliers):
            self.assertEqual(part, as_ratio(Fraction(*part)))
            self.assertIs(type(part), tuple)
        return answer

    def test_5_8_small_tasks_by_all_corners(self):
        chance = seeded(58)
        kinds = {Top: 0, Barred: 0}
        for _ in range(700):
            task = some_task(chance, chance.randint(1, 4), chance.randint(0, 4), chance.choice((1, 2, 5)))
            best = plain_best(task)
            answer = self.solved(task)
            kinds[type(answer)] += 1
            self.assertEqual(isinstance(answer, Barred), best is None)
            if best is not None:
                self.assertEqual(answer.value, as_ratio(best))
        self.assertLess(50, min(kinds.values()))

    def test_5_8_sixteen_places_and_rows(self):
        chance = seeded(581)
        kinds = {Top: 0, Barred: 0}
        for size in (1, 2, 5, 1000, GREAT):
            for _ in range(40):
                kinds[type(self.solved(some_task(chance, 16, 16, size)))] += 1
        self.assertLess(20, min(kinds.values()))

    def test_5_8_tasks_of_one_place(self):
        self.assertEqual(vars(self.solved(Task([7], [3], []))), {"value": (7, 3), "point": ((1, 3),),
                                                                 "multipliers": ()})
        self.assertEqual(self.solved(Task([-7], [3], [[0], [-1]])).value, (-7, 3))
        self.assertIsInstance(self.solved(Task([-7], [3], [[0], [1]])), Barred)
        self.assertIsInstance(self.solved(Task([0], [0], [])), Barred)
        self.assertIsInstance(self.solved(Task([-1], [0], [[-5]])), Barred)

    def test_5_8_tasks_without_rows(self):
        answer = self.solved(Task([3, 5, -1, 4], [2, 3, 0, 2], []))
        self.assertEqual((answer.value, answer.point), ((2, 1), ((0, 1), (0, 1), (0, 1), (1, 2))))
        self.assertEqual(self.solved(Task([-1] * 16, [1] * 16, [])).value, (-1, 1))
        self.assertIsInstance(self.solved(Task([0, -3], [0, 0], [])), Barred)

    def test_5_8_places_of_unit_0(self):
        # Place 1 costs nothing and lets place 0 be there.
        answer = self.solved(Task([1, 0], [1, 0], [[1, -1]]))
        self.assertEqual(answer.value, (1, 1))
        self.assertGreaterEqual(Fraction(*answer.point[1]), 1)
        self.assertEqual(self.solved(Task([1, -2], [1, 0], [[3, -1]])).value, (-5, 1))
        self.assertIsInstance(self.solved(Task([1, 0], [1, 0], [[1, 0]])), Barred)

    def test_5_8_ties_in_which_one_must_not_go_in_rings(self):
        for goal, unit, rows, value in RINGS:
            best = plain_best(Task(goal, unit, rows))
            self.assertEqual(best, value and Fraction(*value))
            for turned in itertools.permutations(rows):
                answer = self.solved(Task(goal, unit, turned))
                self.assertEqual(answer.value if isinstance(answer, Top) else None, value)
        goal, unit, rows, value = RINGS[0]
        for places in itertools.permutations(range(5)):
            for turned in itertools.permutations(rows):
                turned = [[row[place] for place in places] for row in turned]
                task = Task([goal[place] for place in places], [unit[place] for place in places], turned)
                self.assertEqual(self.solved(task).value, value)

    def test_5_8_many_ties(self):
        chance = seeded(582)
        for _ in range(200):
            places = chance.randint(8, 16)
            rows = [[chance.choice((0, 0, 1, -1)) for _ in range(places)] for _ in range(chance.randint(4, 16))]
            self.solved(Task([chance.choice((0, 1)) for _ in range(places)], [1] * places, rows))
            self.solved(Task([chance.choice((0, 1)) for _ in range(places)], [1] * places, rows[:4] * 4))

    def test_5_8_tasks_that_are_bad_for_walking_along_the_edges(self):
        for many in (5, 10, 15):
            cube = [[2 ** (i - j + 1) if j < i else int(i == j) for j in range(many)] + [-5 ** i] for i in range(many)]
            goal = [2 ** (many - 1 - j) for j in range(many)] + [0]
            for unit in ([1] * (many + 1), [1] * many + [10 ** 29]):
                for rows in (cube, cube[::-1]):
                    task = Task(goal, unit, rows)
                    back = Task(goal[::-1], unit[::-1], [row[::-1] for row in rows])
                    self.assertEqual(self.solved(task).value, self.solved(back).value)

    def test_5_8_numbers_of_thirty_figures(self):
        task = Task([GREAT, 0], [GREAT, 1], [[GREAT, -1]])
        self.assertEqual(self.solved(task).value, (1, 2))
        task = Task([1, 0], [1, GREAT], [[GREAT - 1, -GREAT]])
        self.assertEqual(self.solved(task).value, (1, GREAT))

    def test_0_6_results_keep_their_arguments(self):
        self.assertEqual(vars(Top((1, 2), ((1, 2),), ())), {"value": (1, 2), "point": ((1, 2),), "multipliers": ()})
        self.assertEqual(vars(Barred(((1, 2),))), {"multipliers": ((1, 2),)})


class Judging(Case):
    # The greatest x0 with x0 + x1 = 1 and 2 x0 <= x1 is 1/3, for 1 <= 1/3 + 2/6 * 2 and 0 <= 1/3 - 1/3.
    task = Task([1, 0], [1, 1], [[2, -1]])
    # x0 + x1 cannot be 1 if 2 x0 <= 0 and x1 <= x0.
    shut = Task([1, 0], [1, 1], [[2, 0], [-1, 1]])

    def judged(self, word, value, point, multipliers):
        answer = Top(value, point, multipliers)
        self.assertEqual(solve_fault(self.task, answer), word)
        self.assertEqual(plain_word(self.task, answer), word)

    def test_5_9_right(self):
        self.judged(None, (1, 3), ((1, 3), (2, 3)), ((1, 3),))
        self.assertIsNone(solve_fault(self.shut, Barred(((1, 1), (1, 1)))))
        self.assertIsNone(solve_fault(self.shut, Barred(((5, 2), (3, 2)))))
        self.assertIsNone(solve_fault(Task([0], [0], []), Barred(())))

    def test_5_9_count(self):
        for point in ((), ((-1, 3),), ((1, 3), (2, 3), (0, 1))):
            self.judged("count", (1, 3), point, ((1, 3),))
        for multipliers in ((), ((1, 3), (-1, 3))):
            self.judged("count", (1, 3), ((1, 3), (2, 3)), multipliers)
        for multipliers in ((), ((-1, 1),), ((1, 1), (1, 1), (-1, 1))):
            self.assertEqual(solve_fault(self.shut, Barred(multipliers)), "count")

    def test_5_9_sign(self):
        self.judged("sign", (1, 3), ((-1, 3), (2, 3)), ((1, 3),))
        self.judged("sign", (1, 3), ((1, 3), (-1, 10 ** 40)), ((1, 3),))
        self.judged("sign", (1, 3), ((1, 3), (2, 3)), ((-1, 3),))
        self.judged("sign", (4, 3), ((4, 3), (-1, 3)), ((1, 3),))
        self.assertEqual(solve_fault(self.shut, Barred(((3, 1), (-1, 5)))), "sign")

    def test_5_9_unit(self):
        self.judged("unit", (0, 1), ((0, 1), (0, 1)), ((1, 3),))
        self.judged("unit", (1, 1), ((1, 1), (2, 1)), ((1, 3),))
        self.judged("unit", (1, 2), ((1, 2), (1, 3)), ((0, 1),))

    def test_5_9_rows(self):
        self.judged("rows", (1, 2), ((1, 2), (1, 2)), ((1, 3),))
        self.judged("rows", (7, 7), ((1, 1), (0, 1)), ((0, 1),))
        self.judged("rows", (0, 1), ((34, 100), (66, 100)), ((0, 1),))

    def test_5_9_value(self):
        for value in ((0, 1), (1, 2), (-1, 3), (333, 1000)):
            self.judged("value", value, ((1, 3), (2, 3)), ((0, 1),))

    def test_5_9_bar(self):
        for multipliers in (((0, 1),), ((1, 2),), ((10, 31),), ((10, 29),)):
            self.judged("bar", (1, 3), ((1, 3), (2, 3)), multipliers)
        self.judged("bar", (0, 1), ((0, 1), (1, 1)), ((1, 3),))
        for multipliers in (((0, 1), (0, 1)), ((1, 1), (99, 100)), ((99, 100), (1, 1)), ((0, 1), (1, 1))):
            self.assertEqual(solve_fault(self.shut, Barred(multipliers)), "bar")
        self.assertEqual(solve_fault(self.task, Barred(((1, 1),))), "bar")

    def test_5_9_against_the_words_of_the_text(self):
        chance = seeded(59)
        words = {Top: set(), Barred: set()}
        for _ in range(3000):
            task = some_task(chance, chance.randint(1, 4), chance.randint(0, 3), 3)
            answer = solve(task)
            answer = self.changed(chance, answer) if chance.random() < 0.9 else answer
            word = plain_word(task, answer)
            words[type(answer)].add(word)
            self.assertEqual(solve_fault(task, answer), word)
        self.assertEqual(words[Top], {None, "count", "sign", "unit", "rows", "value", "bar"})
        self.assertEqual(words[Barred], {None, "count", "sign", "bar"})

    def changed(self, chance, answer):
        def other(parts):
            parts = list(parts)
            what = chance.randrange(6)
            if what == 0 and parts:
                parts.pop(chance.randrange(len(parts)))
            elif what == 1:
                parts.append((chance.randint(-1, 1), 1))
            elif parts:
                parts[chance.randrange(len(parts))] = as_ratio(Fraction(chance.randint(-1, 4), chance.randint(1, 3)))
                if what == 2:
                    return other(parts)
            return tuple(parts)

        if isinstance(answer, Barred):
            return Barred(other(answer.multipliers))
        what = chance.randrange(3)
        if what == 0:
            return Top((chance.randint(-2, 3), 1), answer.point, answer.multipliers)
        if what == 1:
            return Top(answer.value, other(answer.point), answer.multipliers)
        return Top(answer.value, answer.point, other(answer.multipliers))

    def test_5_9_great_numbers(self):
        chance = seeded(591)
        for _ in range(30):
            task = some_task(chance, 16, 8, GREAT)
            answer = solve(task)
            little = as_ratio(Fraction(1, 10 ** 400))
            if isinstance(answer, Top):
                value = as_ratio(Fraction(*answer.value) + Fraction(*little))
                self.assertEqual(solve_fault(task, Top(value, answer.point, answer.multipliers)), "value")
            first = as_ratio(Fraction(*answer.multipliers[0]) - 10 ** 400)
            y = (first,) + answer.multipliers[1:]
            wrong = Top(answer.value, answer.point, y) if isinstance(answer, Top) else Barred(y)
            self.assertEqual(solve_fault(task, wrong), "sign")
