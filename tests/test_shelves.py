"""Shelves: points 10.8 to 10.10."""

from tests.helpers import (FOUR, ONE, THREE, TWO, Case, keeping, plain_keeps, plain_lots, seeded,
                           some_book, some_kept_book, some_saying)
from usualdays.books import Book
from usualdays.errors import BadLot, BadShelf, OtherDays
from usualdays.lifting import Stuck, lift
from usualdays.liftjudge import stuck_fault
from usualdays.orders import Order
from usualdays.sayings import Saying
from usualdays.shelves import Failure, Serving, failing, serving_lots, servings

SHELF = [Saying(9, 1), Saying(5, 1), Saying(12, 4)]
EMPTY = Book(TWO, [])
CALLS = (lambda book, shelf, wishes, bars, **named: failing(book, shelf, (), wishes, bars, **named),
         lambda *things, **named: list(serving_lots(*things, **named)), servings)


def least_of(orders):
    return tuple(min(layers) for layers in zip(*orders))


def plain_failure(book, shelf, lot, wishes, bars, for_all):
    """None or (what, index), by the words of points 10.8 and 10.9 and all orders."""
    orders = keeping(book, *[shelf[index] for index in lot])
    if not orders:
        return "stuck", None
    if not for_all:
        orders = [least_of(orders)]
    for index, wish in enumerate(wishes):
        if not all(plain_keeps(layers, wish) for layers in orders):
            return "wish", index
    for index, bar in enumerate(bars):
        if all(plain_keeps(layers, bar) for layers in orders):
            return "bar", index
    return None


def some_task(chance, marks, most):
    """A book, a shelf, wishes and bars."""
    book = some_kept_book(chance, marks, chance.randint(0, 2)) if chance.random() < 0.9 else some_book(chance, marks, 3)
    counts = [chance.randint(0, most), chance.choice((0, 1, 1, 2)), chance.choice((0, 1, 1, 2))]
    rows = [[some_saying(chance, marks) for _ in range(count)] for count in counts]
    return book, *[tuple(row) if chance.random() < 0.5 else row for row in rows]


class Shelves(Case):
    def judged(self, task, lot, for_all):
        """A failure with its paper; returns what and index, or None."""
        book, shelf, wishes, bars = task
        found = failing(book, shelf, lot, wishes, bars, for_all=for_all)
        if found is None:
            return None
        self.assertIs(type(found), Failure)
        further = [shelf[index] for index in lot]
        if found.what == "stuck":
            self.assertIsNone(stuck_fault(book, found.paper, *further))
        elif found.what == "wish":
            wish = wishes[found.index]
            against = [wish.contrary()] if for_all else []
            self.assertEqual(found.paper, lift(book, *further, *against).order)
            self.assertFalse(found.paper.keeps(wish))
        elif for_all:
            self.assertIsNone(stuck_fault(book, found.paper, *further, bars[found.index].contrary()))
        else:
            self.assertEqual(found.paper, lift(book, *further).order)
            self.assertTrue(found.paper.keeps(bars[found.index]))
        return found.what, found.index

    def all_lots_judged(self, task, for_all):
        """Also what serving_lots and servings say; returns a dict of failures."""
        book, shelf, wishes, bars = task
        lots = plain_lots(len(shelf))
        failures = {lot: self.judged(task, lot, for_all) for lot in lots}
        serving = [lot for lot in lots if failures[lot] is None]
        self.assertEqual(list(serving_lots(book, shelf, wishes, bars, for_all=for_all)), serving)
        least = servings(book, shelf, wishes, bars, for_all=for_all)
        self.assertIs(type(least), tuple)
        self.assertEqual([one.lot for one in least],
                         [lot for lot in serving if not any(set(other) < set(lot) for other in serving)])
        for one in least:
            self.assertIs(type(one), Serving)
            self.assertIs(type(one.failures), tuple)
            self.assertEqual([part for part, _ in one.failures], [lot for lot in lots if set(lot) < set(one.lot)])
            for part, failure in one.failures:
                self.assertEqual((failure.what, failure.index), failures[part])
        if for_all:
            for low in serving:
                for high in serving:
                    between = [lot for lot in lots if set(low) <= set(lot) <= set(high)]
                    self.assertTrue(all(lot in serving for lot in between))
        return failures

    def test_10_8_10_9_10_10_all_orders(self):
        chance = seeded(108)
        seen = {}
        for _ in range(120):
            task = some_task(chance, chance.choice((ONE, TWO, TWO)), 3)
            for for_all in (False, True):
                for lot, failure in self.all_lots_judged(task, for_all).items():
                    self.assertEqual(failure, plain_failure(task[0], task[1], lot, *task[2:], for_all))
                    key = for_all, failure
                    seen[key] = seen.get(key, 0) + 1
        for for_all in (False, True):
            for failure in (None, ("stuck", None), ("wish", 0), ("wish", 1), ("bar", 0), ("bar", 1)):
                self.assertLess(3, seen.get((for_all, failure), 0), (for_all, failure))

    def test_10_10_more_marks(self):
        chance = seeded(1010)
        many = 0
        for marks in (THREE, FOUR):
            for _ in range(12):
                task = some_task(chance, marks, 4)
                for for_all in (False, True):
                    many += None in self.all_lots_judged(task, for_all).values()
        self.assertLess(5, many)

    def test_10_10_examples(self):
        self.assertEqual(list(serving_lots(EMPTY, SHELF, [Saying(12, 4)], [])), [(0,), (2,), (0, 2), (1, 2), (0, 1, 2)])
        [first, second] = servings(EMPTY, SHELF, [Saying(12, 4)], [])
        self.assertEqual([first.lot, second.lot], [(0,), (2,)])
        [(part, failure)] = first.failures
        self.assertEqual((part, failure.what, failure.index, failure.paper), ((), "wish", 0, Order.flat(4)))
        # In all orders, only the wish itself makes sure of it.
        self.assertEqual(list(serving_lots(EMPTY, SHELF, [Saying(12, 4)], [], for_all=True)),
                         [(2,), (0, 2), (1, 2), (0, 1, 2)])
        failure = failing(EMPTY, SHELF, (0,), [Saying(12, 4)], [], for_all=True)
        self.assertEqual((failure.what, failure.paper.layers), ("wish", (0, 0, 1, 1)))

    def test_10_8_one_order_unless_for_all(self):
        # Only the least order keeps the wish: the day 0 lies below all others.
        one, wish = [Saying(9, 1)], [Saying(12, 4)]
        self.assertIsNone(failing(EMPTY, one, (0,), wish, []))
        self.assertIsNone(failing(EMPTY, one, (0,), wish, [], for_all=False))
        self.assertIsNotNone(failing(EMPTY, one, (0,), wish, [], for_all=True))
        self.assertEqual([found.lot for found in servings(EMPTY, one, wish, [])], [(0,)])
        self.assertEqual(servings(EMPTY, one, wish, [], for_all=True), ())
        self.assertEqual(list(serving_lots(EMPTY, one, wish, [])), [(0,)])
        self.assertEqual(list(serving_lots(EMPTY, one, wish, [], for_all=True)), [])

    def test_10_8_more_sayings_need_not_serve_better(self):
        lots = list(serving_lots(EMPTY, SHELF, [Saying(12, 4)], [Saying(5, 1)]))
        self.assertEqual(lots, [(0,), (2,), (0, 2)])
        # Without any saying nothing is kept of a bar, but some order keeps it.
        self.assertIsNone(failing(EMPTY, [], (), [], [Saying(3, 1)], for_all=True))
        self.assertEqual(failing(EMPTY, [], (), [], [Saying(3, 3)], for_all=True).what, "bar")

    def test_10_8_edges(self):
        self.assertIsNone(failing(EMPTY, [], (), [], []))
        self.assertEqual(list(serving_lots(EMPTY, (), (), ())), [()])
        [only] = servings(EMPTY, [], [], [], for_all=True)
        self.assertEqual((only.lot, only.failures), ((), ()))
        impossible = Book(TWO, [Saying(4, 0)])
        for for_all in (False, True):
            self.assertEqual(list(serving_lots(impossible, SHELF, [], [], for_all=for_all)), [])
            self.assertEqual(servings(impossible, SHELF, [], [], for_all=for_all), ())
            self.assertEqual(failing(impossible, SHELF, [0, 2], [], [], for_all=for_all).what, "stuck")
            self.assertIsInstance(failing(EMPTY, [Saying(4, 0)], (0,), [], [], for_all=for_all).paper, Stuck)
        # A book of twelve sayings and six more.
        full = Book(TWO, [Saying(3, 1)] * 12)
        six = [Saying(12, 4)] * 6
        self.assertEqual(len(list(serving_lots(full, six, six, six[:1]))), 0)
        self.assertEqual(len(list(serving_lots(full, six, six, [Saying(12, 8)] * 6))), 63)
        self.assertEqual([one.lot for one in servings(full, six, six, [])], [(n,) for n in range(6)])
        self.assertIsNone(failing(full, six, (0, 1, 2, 3, 4, 5), six, []))

    def test_10_8_the_first_wish_and_the_first_bar(self):
        wishes, bars = [Saying(3, 3), Saying(3, 1), Saying(3, 2)], [Saying(3, 1), Saying(3, 3), Saying(15, 15)]
        for for_all in (False, True):
            failure = failing(EMPTY, [], (), wishes, bars, for_all=for_all)
            self.assertEqual((failure.what, failure.index), ("wish", 1))
            failure = failing(EMPTY, [], (), wishes[:1], bars, for_all=for_all)
            self.assertEqual((failure.what, failure.index), ("bar", 1))

    def test_10_8_bad_shelf(self):
        good, seven = [Saying(3, 1)], [Saying(3, 1)] * 7
        bad = (seven, tuple(seven), None, Saying(3, 1), EMPTY, [Saying(3, 1), None], [3], {0: Saying(3, 1)}, "abc",
               [[Saying(3, 1)]], True, 6)
        foreign = [Saying(16, 1)]
        for call in CALLS:
            for thing in bad:
                for for_all in (False, True):
                    self.refuses(BadShelf("shelf"), call, EMPTY, thing, good, good, for_all=for_all)
                    self.refuses(BadShelf("shelf"), call, EMPTY, thing, thing, foreign, for_all=for_all)
                    self.refuses(BadShelf("wishes"), call, EMPTY, good, thing, good, for_all=for_all)
                    self.refuses(BadShelf("wishes"), call, EMPTY, foreign, thing, thing, for_all=for_all)
                    self.refuses(BadShelf("bars"), call, EMPTY, good, good, thing, for_all=for_all)
                    self.refuses(BadShelf("bars"), call, EMPTY, foreign, foreign, thing, for_all=for_all)
            for number in (Saying(16, 1), Saying(1, 16), Saying(65535, 0, False)):
                for rows in (([number], [], []), ([], [number], []), ([], [], [number]), (good, good, good + [number])):
                    self.refuses(OtherDays(), call, EMPTY, *rows)
                    self.refuses(OtherDays(), call, Book(TWO, [Saying(1, 0)]), *rows)

    def test_10_9_bad_lot(self):
        for lot in ((3,), (0, 3), (-1,), (1, 0), (0, 0), (True,), (None,), "0", {0}, {0: 0}, 0, None, True, ((0,),),
                    [1, 1], range(2)):
            self.refuses(BadLot(), failing, EMPTY, SHELF, lot, [], [])
            self.refuses(BadShelf("bars"), failing, EMPTY, SHELF, lot, [], None)
            self.refuses(OtherDays(), failing, EMPTY, SHELF, lot, [Saying(16, 1)], [])
        self.refuses(BadLot(), failing, EMPTY, [], (0,), [], [])
        for lot in ([0, 2], (0, 2)):
            self.assertIsNone(failing(EMPTY, SHELF, lot, [], []))

    def test_10_10_a_generator(self):
        lots = serving_lots(EMPTY, SHELF, [], [])
        self.assertEqual([next(lots), next(lots), next(lots)], [(), (0,), (1,)])
        self.assertEqual(list(lots), [(2,), (0, 1), (0, 2), (1, 2), (0, 1, 2)])

    def test_0_6_results_keep_their_arguments(self):
        self.assertEqual(vars(Failure("wish", 2, None)), {"what": "wish", "index": 2, "paper": None})
        self.assertEqual(vars(Serving((0,), ())), {"lot": (0,), "failures": ()})
