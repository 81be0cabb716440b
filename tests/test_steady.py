"""Full orders, steady sayings and cheapest withdrawals: points 10.5 to 10.7."""

from tests.helpers import (FOUR, ONE, ORDERS, STRANGE, THREE, TWO, Case, keeping, plain_keeps, seeded,
                           some_kept_book, some_saying)
from tests.test_strife import FOREIGN, Q, lots_of
from usualdays.books import Book
from usualdays.errors import BadCosts, OtherDays, TooMany
from usualdays.lifting import Stuck, lift
from usualdays.liftjudge import stuck_fault
from usualdays.orders import Order
from usualdays.sayings import Saying
from usualdays.steady import (Cheapest, Steady, Unsteady, cheapest, filled, is_full, kept_lot, steady, steady_fault)
from usualdays.strife import strife
from usualdays.told import tells


def plain_kept(book, layers):
    return tuple(number for number, saying in enumerate(book) if plain_keeps(layers, saying))


def plain_full(book):
    """All orders without gaps that are full, by the words of point 10.5."""
    kept = {layers: set(plain_kept(book, layers)) for layers in ORDERS[book.marks.days]}
    return [layers for layers, lot in kept.items() if not any(lot < other for other in kept.values())]


def plain_filled(book, layers):
    lot = list(plain_kept(book, layers))
    for number in range(len(book)):
        if number not in lot and keeping(book.only(sorted([*lot, number]))):
            lot = sorted([*lot, number])
    return tuple(min(own) for own in zip(*keeping(book.only(lot))))


def clashing_book(chance, marks, most):
    """A book of which often no order keeps all sayings."""
    return Book(marks, [some_saying(chance, marks) for _ in range(chance.randint(0, most))])


def some_order(chance, days):
    return Order.lowered([chance.randint(0, 3) for _ in range(days)])


class FullOrders(Case):
    def test_10_5_all_orders(self):
        chance = seeded(105)
        for _ in range(60):
            marks = chance.choice((ONE, TWO))
            book = clashing_book(chance, marks, 5)
            full = plain_full(book)
            missing = set()
            for layers in ORDERS[marks.days]:
                order = Order([layer * 2 for layer in layers])
                self.assertEqual(kept_lot(book, order), plain_kept(book, layers))
                self.assertIs(is_full(book, order), layers in full)
                if layers in full:
                    missing.add(tuple(n for n in range(len(book)) if n not in plain_kept(book, layers)))
            for layers in chance.sample(ORDERS[marks.days], 3):
                more = filled(book, Order(layers))
                self.assertEqual(more.layers, plain_filled(book, layers))
                self.assertTrue(is_full(book, more))
                self.assertTrue(set(plain_kept(book, layers)) <= set(kept_lot(book, more)))
            # A full order breaks just a withdrawal, and there is one for each withdrawal.
            self.assertEqual(missing, set(lots_of(strife(book).withdrawals)))

    def test_10_5_more_marks(self):
        chance = seeded(1051)
        full = 0
        for marks in (THREE, FOUR):
            for _ in range(25):
                book = clashing_book(chance, marks, 12)
                order = some_order(chance, marks.days)
                more = filled(book, order)
                self.assertTrue(is_full(book, more))
                self.assertEqual(more, lift(book.only(kept_lot(book, more))).order)
                if is_full(book, order):
                    full += 1
                    self.assertEqual(kept_lot(book, more), kept_lot(book, order))
                again = filled(book, more)
                self.assertEqual((again, kept_lot(book, again)), (more, kept_lot(book, more)))
                for lot, rest in strife(book).withdrawals if len(book) <= 8 else ():
                    self.assertTrue(is_full(book, rest))
                    self.assertEqual(kept_lot(book, rest), tuple(n for n in range(len(book)) if n not in lot))
        self.assertLess(3, full)

    def test_10_5_examples(self):
        orders = [Order.flat(4), Order((0, 0, 0, 1)), Order((0, 2, 0, 1)), Order((0, 1, 0, 0))]
        self.assertEqual([kept_lot(Q, order) for order in orders], [(), (1, 2), (0, 2), (0,)])
        self.assertEqual([is_full(Q, order) for order in orders], [False, True, True, False])
        self.assertEqual([filled(Q, order).layers for order in orders],
                         [(0, 2, 0, 1), (0, 0, 0, 1), (0, 2, 0, 1), (0, 2, 0, 1)])

    def test_10_5_edges(self):
        for book in (Book(TWO, []), Book(FOUR, [])):
            flat = Order.flat(book.marks.days)
            self.assertEqual((kept_lot(book, flat), is_full(book, flat), filled(book, flat)), ((), True, flat))
        # The lowest numbers come in first, and an impossible saying never does.
        book = Book(TWO, [Saying(4, 0), Saying(3, 1), Saying(3, 2), Saying(15, 15)])
        self.assertEqual(filled(book, Order.flat(4)).layers, (0, 1, 0, 0))
        self.assertEqual(kept_lot(book, filled(book, Order((5, 0, 5, 5)))), (2, 3))
        # There is no TooMany.
        twelve = Book(TWO, [Saying(3, 1), Saying(3, 2)] * 6)
        self.assertEqual(kept_lot(twelve, filled(twelve, Order.flat(4))), (0, 2, 4, 6, 8, 10))
        self.assertFalse(is_full(twelve, Order.flat(4)))
        self.assertTrue(is_full(twelve, Order((4, 0, 7, 7))))

    def test_10_5_other_days(self):
        for days in (2, 8, 16):
            for book in (Q, Book(TWO, []), Book(TWO, [Saying(1, 1)] * 12)):
                for call in (kept_lot, is_full, filled):
                    self.refuses(OtherDays(), call, book, Order.flat(days))


class SteadySayings(Case):
    def judged(self, book, saying):
        answer = steady(book, saying)
        self.assertIsNone(steady_fault(book, saying, answer))
        withdrawals = lots_of(strife(book).withdrawals)
        silent = [lot for lot in withdrawals if not tells(book.without(lot), saying)]
        if isinstance(answer, Steady):
            self.assertEqual(silent, [])
            self.assertIs(type(answer.stucks), tuple)
            self.assertEqual(len(answer.stucks), len(withdrawals))
            for lot, stuck in zip(withdrawals, answer.stucks):
                self.assertIsNone(stuck_fault(book.without(lot), stuck, saying.contrary()))
            self.assertIsInstance(steady(book, saying.contrary()), Unsteady)
        else:
            self.assertIs(type(answer), Unsteady)
            self.assertEqual(answer.lot, silent[0])
            self.assertEqual(answer.order, lift(book.without(answer.lot), saying.contrary()).order)
            self.assertTrue(is_full(book, answer.order))
            self.assertFalse(answer.order.keeps(saying))
        if not isinstance(lift(book), Stuck):
            self.assertEqual(isinstance(answer, Steady), tells(book, saying))
        return isinstance(answer, Steady)

    def test_10_6_all_orders(self):
        chance = seeded(106)
        seen = set()
        for _ in range(60):
            marks = chance.choice((ONE, TWO, TWO))
            book = clashing_book(chance, marks, 5)
            full = plain_full(book)
            stuck = isinstance(lift(book), Stuck)
            for saying in [some_saying(chance, marks) for _ in range(3)] + list(book)[:2]:
                is_steady = self.judged(book, saying)
                self.assertEqual(is_steady, all(plain_keeps(layers, saying) for layers in full))
                seen.add((stuck, is_steady))
        self.assertEqual(len(seen), 4)

    def test_10_6_more_marks(self):
        chance = seeded(1061)
        for marks in (THREE, FOUR):
            for _ in range(8):
                book = clashing_book(chance, marks, 7)
                self.judged(book, some_saying(chance, marks))
                self.judged(some_kept_book(chance, marks, 8), some_saying(chance, marks))

    def test_10_6_examples(self):
        loose = steady(Q, Saying(6, 4))
        self.assertEqual((loose.lot, loose.order.layers), ((0,), (0, 0, 0, 1)))
        self.assertTrue(self.judged(Q, Saying(12, 4)))
        self.assertFalse(self.judged(Q, Saying(10, 8)))
        self.assertEqual(steady(Q, Saying(10, 8)).lot, (0,))
        self.assertEqual(steady(Q, Saying(10, 2)).lot, (1,))

    def test_10_6_edges(self):
        self.assertTrue(self.judged(Book(TWO, []), Saying(3, 3)))
        self.assertFalse(self.judged(Book(TWO, []), Saying(3, 1)))
        self.assertEqual(steady(Book(TWO, []), Saying(3, 1)).lot, ())
        impossible = Book(TWO, [Saying(4, 0)])
        self.assertFalse(self.judged(impossible, Saying(4, 0)))
        self.assertTrue(self.judged(impossible, Saying(4, 4)))
        eight = Book(TWO, [Saying(3, 1)] * 8)
        self.assertTrue(self.judged(eight, Saying(3, 1)))

    def test_10_6_errors(self):
        nine = Book(TWO, [Saying(3, 1)] * 9)
        right = Steady(())
        for saying in FOREIGN:
            for book in (Q, nine):
                self.refuses(OtherDays(), steady, book, saying)
                self.refuses(OtherDays(), steady_fault, book, saying, right)
        self.refuses(TooMany(9), steady, nine, Saying(3, 1))
        self.refuses(TooMany(9), steady_fault, nine, Saying(3, 1), right)
        self.refuses(TooMany(9), steady_fault, nine, Saying(3, 1), Unsteady((), Order.flat(4)))

    def test_0_6_results_keep_their_arguments(self):
        order, stucks = Order([0, 1]), (Stuck(1, (0, None), (0, 0)),)
        self.assertEqual(vars(Steady(stucks)), {"stucks": stucks})
        self.assertEqual(vars(Unsteady((0,), order)), {"lot": (0,), "order": order})
        self.assertEqual(vars(Cheapest(3, ((0,),))), {"cost": 3, "lots": ((0,),)})


class Judging(Case):
    def test_10_6_steady_words(self):
        saying = Saying(12, 4)
        first, second = steady(Q, saying).stucks
        for stucks, word in (((), "count"), ((first,), "count"), ((first, second, second), "count"),
                             ((None,) * 3, "count"), ((first, second), None),
                             ((Stuck(0, (), ()), second), "stuck"), ((first, Stuck(0, (), ())), "stuck"),
                             ((lift(Book(TWO, [Saying(4, 0)])), second), "stuck")):
            self.assertEqual(steady_fault(Q, saying, Steady(stucks)), word, stucks)
        self.assertEqual(steady_fault(Q, Saying(6, 4), Steady((first, second))), "stuck")

    def test_10_6_unsteady_words(self):
        saying = Saying(6, 4)
        low, high = Order((0, 0, 0, 1)), Order((0, 2, 0, 1))
        for lot, order, word in (((0,), low, None), ((0,), Order((0, 0, 0, 9)), None), ((0,), Order.flat(2), "order"),
                                 ((0,), Order.flat(8), "order"), ((0, 1, 2), Order.flat(4), "order"),
                                 ((), low, "lot"), ((1,), low, "lot"), ((1, 2), low, "lot"), ((0, 0), low, "lot"),
                                 ((0, 1), low, "lot"), ((True,), low, "lot"), ((False,), low, "lot"), ([0], low, "lot"), ((1,), high, "kept"),
                                 ((0,), high, "lot"), ((0,), Order((0, 0, 1, 2)), None),
                                 ((0, 2), Order((0, 0, 2, 1)), "order")):
            self.assertEqual(steady_fault(Q, saying, Unsteady(lot, order)), word, (lot, order.layers))
        # Any full order is right, also one behind a later withdrawal.
        self.assertIsNone(steady_fault(Q, Saying(10, 2), Unsteady((1,), high)))

    def test_10_6_drawn(self):
        chance = seeded(1062)
        words = set()
        for _ in range(300):
            book, saying = clashing_book(chance, TWO, 4), some_saying(chance, TWO)
            layers = chance.choice(plain_full(book)) if chance.random() < 0.8 else chance.choice(ORDERS[4])
            broken = tuple(n for n in range(len(book)) if n not in plain_kept(book, layers))
            lot = broken if chance.random() < 0.8 else broken[1:]
            word = ("order" if layers not in plain_full(book) else "lot" if lot != broken
                    else "kept" if plain_keeps(layers, saying) else None)
            words.add(word)
            self.assertEqual(steady_fault(book, saying, Unsteady(lot, Order(layers))), word)
        self.assertEqual(words, {"order", "lot", "kept", None})


class Costs(Case):
    def test_10_7_all_orders(self):
        chance = seeded(107)
        several = 0
        for _ in range(80):
            marks = chance.choice((ONE, TWO))
            book = clashing_book(chance, marks, 6)
            costs = [chance.choice((0, 1, 1, 2, 3, 10 ** 30)) for _ in book]
            if chance.random() < 0.5:
                costs = tuple(costs)
            found = cheapest(book, costs)
            sums = {lot: sum(costs[number] for number in lot) for lot in lots_of(strife(book).withdrawals)}
            self.assertEqual(found.cost, min(sums.values()))
            self.assertIs(type(found.lots), tuple)
            self.assertEqual(found.lots, tuple(lot for lot in sums if sums[lot] == found.cost))
            several += len(found.lots) > 1
            for layers in ORDERS[marks.days]:
                kept = plain_kept(book, layers)
                self.assertGreaterEqual(sum(cost for n, cost in enumerate(costs) if n not in kept), found.cost)
        self.assertLess(0, several)

    def test_10_7_examples_and_edges(self):
        for costs, cost, lots in (([3, 1, 5], 1, ((1,),)), ((2, 2, 0), 2, ((0,), (1,))), ([0, 7, 0], 0, ((0,),)),
                                  ([10 ** 30, 10 ** 30 - 1, 0], 10 ** 30 - 1, ((1,),)), ([0, 0, 0], 0, ((0,), (1,)))):
            found = cheapest(Q, costs)
            self.assertEqual((found.cost, found.lots), (cost, lots))
        for book in (Book(TWO, []), Q.only((0, 2))):
            found = cheapest(book, [4] * len(book))
            self.assertEqual((found.cost, found.lots), (0, ((),)))
        # The cheapest withdrawal may be the longer one.
        book = Book(TWO, [Saying(3, 1), Saying(3, 2), Saying(3, 2)])
        self.assertEqual(cheapest(book, [5, 2, 2]).lots, ((1, 2),))
        self.assertEqual(cheapest(book, [4, 2, 2]).lots, ((0,), (1, 2)))

    def test_10_7_errors(self):
        for costs in ([1, 2], [1, 2, 3, 4], (), [1, 2, -1], [1, True, 2], [1, None, 2], [1, 2, "3"], [1, 2.0, 3],
                      [1, 10 ** 30 + 1, 2], {0: 1, 1: 2, 2: 3}, {1, 2, 3}, "123", *STRANGE):
            self.refuses(BadCosts(), cheapest, Q, costs)
        nine = Book(TWO, [Saying(3, 1)] * 9)
        for costs in ([1] * 9, [1], None):
            self.refuses(TooMany(9), cheapest, nine, costs)
        self.refuses(BadCosts(), cheapest, Book(TWO, []), [1])
        self.assertEqual(cheapest(Book(TWO, []), ()).cost, 0)
