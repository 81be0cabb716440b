"""Benches: points 10.12 to 10.14."""

from tests.helpers import (FOUR, ONE, STRANGE, TWO, Case, plain_keeps, seeded, some_book, some_kept_book, some_saying)
from tests.test_strife import Q, lots_of
from usualdays.bench import Bench, on_trial, promised
from usualdays.books import Book
from usualdays.errors import BadBook, NoSaying, NothingDone, NoWithdrawal, TooMany
from usualdays.lifting import Lifted, Stuck, lift
from usualdays.orders import Order
from usualdays.sayings import Saying
from usualdays.strife import strife

A, B, C = Saying(3, 1), Saying(12, 4), Saying(15, 5)


def shown(bench):
    """All that can be seen of a bench, but for what was undone."""
    return list(bench), bench.deeds, bench.now


class PlainBench:
    """A bench as plain lists; what lay there at each time is kept as a copy."""

    def __init__(self, book):
        self.rows = list(enumerate(book))
        self.given = len(book)
        self.deeds = []
        self.past, self.future = [], []

    def copy(self):
        return list(self.rows), self.given, list(self.deeds)

    def done(self, deed, rows, given):
        self.past.append(self.copy())
        self.future = []
        self.rows, self.given, self.deeds = rows, given, self.deeds + [deed]

    def put(self, saying):
        self.done(("put", self.given, saying), self.rows + [(self.given, saying)], self.given + 1)

    def take(self, numbers, deed):
        self.done(deed, [row for row in self.rows if row[0] not in numbers], self.given)

    def undo(self):
        self.future.append(self.copy())
        self.rows, self.given, self.deeds = self.past.pop()

    def redo(self):
        self.past.append(self.copy())
        self.rows, self.given, self.deeds = self.future.pop()


class Deeds(Case):
    def agrees(self, bench, plain, book):
        self.assertEqual(bench.first, book)
        self.assertEqual(list(bench), plain.rows)
        self.assertEqual(len(bench), len(plain.rows))
        self.assertEqual(bench.now, Book(book.marks, [saying for _, saying in plain.rows]))
        self.assertIs(type(bench.deeds), tuple)
        self.assertEqual(bench.deeds, tuple(plain.deeds))

    def some_deed(self, chance, bench, plain, marks):
        """Do a drawn deed, undo or redo; or see that it is refused, with nothing changed or forgotten."""
        kind = chance.choice(("put", "put", "take", "mend", "undo", "redo", "redo"))
        if kind == "put":
            saying = some_saying(chance, marks)
            if len(plain.rows) == 12:
                self.refuses(BadBook("count", None), bench.put, saying)
            else:
                self.assertEqual(bench.put(saying), plain.given)
                plain.put(saying)
        elif kind == "take":
            number = chance.randint(0, plain.given)
            found = [saying for own, saying in plain.rows if own == number]
            if not found:
                self.refuses(NoSaying(number), bench.take, number)
            else:
                self.assertEqual(bench.take(number), found[0])
                plain.take([number], ("take", number, found[0]))
        elif kind == "mend":
            self.some_mending(chance, bench, plain)
        elif kind == "undo":
            if not plain.past:
                self.refuses(NothingDone(), bench.undo)
            else:
                self.assertEqual(bench.undo(), plain.deeds[-1])
                plain.undo()
        elif not plain.future:
            self.refuses(NothingDone(), bench.redo)
        else:
            plain.redo()
            self.assertEqual(bench.redo(), plain.deeds[-1])

    def some_mending(self, chance, bench, plain):
        if len(plain.rows) > 8:
            self.refuses(TooMany(len(plain.rows)), bench.mend, 0)
            return
        lots = lots_of(strife(bench.now).withdrawals)
        index = chance.randint(0, len(lots))
        if index == len(lots):
            self.refuses(NoWithdrawal(index), bench.mend, index)
            return
        numbers = tuple(plain.rows[place][0] for place in lots[index])
        self.assertEqual(bench.mend(index), numbers)
        plain.take(numbers, ("mend", index, numbers))

    def test_10_12_10_13_against_plain_lists(self):
        chance = seeded(1012)
        kinds = set()
        for _ in range(40):
            book = some_book(chance, chance.choice((ONE, TWO)), 5)
            bench, plain = Bench(book), PlainBench(book)
            for _ in range(30):
                self.some_deed(chance, bench, plain, book.marks)
                self.agrees(bench, plain, book)
                kinds.update(deed[0] for deed in bench.deeds)
        self.assertEqual(kinds, {"put", "take", "mend"})

    def test_10_14_trials_within_trials_against_plain_lists(self):
        chance = seeded(1014)
        for _ in range(30):
            book = some_kept_book(chance, TWO, 3)
            bench, plain = Bench(book), PlainBench(book)
            self.some_trial(chance, bench, plain, book, 3)

    def some_trial(self, chance, bench, plain, book, deep):
        for _ in range(4):
            self.some_deed(chance, bench, plain, book.marks)
        if deep > 0:
            copied = plain.copy(), list(plain.past), list(plain.future)
            with bench.trial() as held:
                self.assertIs(held, bench)
                self.some_trial(chance, bench, plain, book, deep - 1)
            (plain.rows, plain.given, plain.deeds), plain.past, plain.future = copied
            self.agrees(bench, plain, book)
        for _ in range(4):
            self.some_deed(chance, bench, plain, book.marks)
            self.agrees(bench, plain, book)

    def test_10_12_examples(self):
        bench = Bench(Q)
        self.assertEqual([bench.put(Saying(6, 4)), bench.quarrel_lots(), bench.mend(1), len(bench)],
                         [3, ((0, 1),), (1,), 3])
        self.assertEqual(list(bench), [(0, Q[0]), (2, Q[2]), (3, Saying(6, 4))])
        self.assertEqual(bench.deeds, (("put", 3, Saying(6, 4)), ("mend", 1, (1,))))
        self.assertEqual(bench.now, Book(TWO, [Q[0], Q[2], Saying(6, 4)]))
        self.assertEqual((bench.quarrel_lots(), bench.withdrawal_lots(), bench.mend(0)), ((), ((),), ()))
        self.assertEqual(bench.deeds[-1], ("mend", 0, ()))
        self.assertEqual((bench.take(2), bench.put(B), [number for number, _ in bench]), (Q[2], 4, [0, 3, 4]))
        self.assertIs(bench.first, Q)

    def test_10_12_numbers_are_not_given_twice(self):
        bench = Bench(Book(TWO, [A]))
        self.assertEqual((bench.put(B), bench.take(1), bench.put(B), bench.take(0)), (1, B, 2, A))
        self.assertEqual((list(bench), bench.put(A)), ([(2, B)], 3))
        # Taking back gives the number back, too.
        bench.undo()
        self.assertEqual(bench.put(C), 3)

    def test_10_12_put_raises_the_errors_of_a_book(self):
        bench = Bench(Book(TWO, [A]))
        bench.put(B)
        for thing in (None, 3, Order, [A], "where any usually a"):
            self.refuses(BadBook("saying", 2), bench.put, thing)
        for saying in (Saying(16, 1), Saying(1, 16), Saying(65535, 0)):
            self.refuses(BadBook("days", 2), bench.put, saying)
        bench.take(0)
        self.refuses(BadBook("saying", 1), bench.put, None)
        full = Bench(Book(TWO, [A] * 12))
        self.refuses(BadBook("count", None), full.put, A)
        self.refuses(BadBook("count", None), full.put, None)
        full.take(5)
        self.assertEqual(full.put(B), 12)

    def test_10_12_no_saying(self):
        bench = Bench(Book(TWO, [A, B, C]))
        bench.take(1)
        for number in (1, 3, 12, *STRANGE):
            self.refuses(NoSaying(number), bench.take, number)
        empty = Bench(Book(TWO, []))
        for number in (0, True, None):
            self.refuses(NoSaying(number), empty.take, number)

    def test_10_12_mend(self):
        bench = Bench(Q)
        for index in (2, 3, 100, *STRANGE):
            self.refuses(NoWithdrawal(index), bench.mend, index)
        self.refuses(NoWithdrawal(1), Bench(Book(ONE, [])).mend, 1)
        self.assertEqual(Bench(Book(ONE, [])).mend(0), ())
        nine = Bench(Book(TWO, [A] * 9))
        for call in (lambda: nine.mend(0), lambda: nine.mend(None), nine.quarrel_lots, nine.withdrawal_lots):
            self.refuses(TooMany(9), call)
        nine.take(4)
        self.assertEqual((nine.withdrawal_lots(), nine.mend(0), len(nine)), (((),), (), 8))
        for index, lot in enumerate(((0,), (1,))):
            mended = Bench(Q)
            self.assertEqual(mended.mend(index), lot)
            self.assertIsInstance(lift(mended.now), Lifted)

    def test_10_13_undo_and_redo(self):
        bench = Bench(Book(TWO, [A]))
        self.refuses(NothingDone(), bench.undo)
        self.refuses(NothingDone(), bench.redo)
        bench.put(B)
        bench.take(0)
        deeds = bench.deeds
        self.assertEqual([bench.undo(), bench.undo()], [deeds[1], deeds[0]])
        self.refuses(NothingDone(), bench.undo)
        self.assertEqual((list(bench), bench.deeds), ([(0, A)], ()))
        self.assertEqual(bench.redo(), deeds[0])
        self.assertEqual(bench.deeds, deeds[:1])
        # What raises an error forgets nothing.
        self.refuses(NoSaying(7), bench.take, 7)
        self.refuses(BadBook("saying", 2), bench.put, None)
        self.refuses(NoWithdrawal(1), bench.mend, 1)
        self.assertEqual(bench.redo(), deeds[1])
        self.refuses(NothingDone(), bench.redo)
        self.assertEqual((list(bench), bench.deeds), ([(1, B)], deeds))
        # A deed makes all be forgotten that was undone.
        bench.undo()
        bench.undo()
        bench.mend(0)
        self.refuses(NothingDone(), bench.redo)
        self.assertEqual(bench.deeds, (("mend", 0, ()),))
        bench.undo()
        self.assertEqual(bench.redo(), ("mend", 0, ()))

    def test_10_13_quarrels_in_the_numbers_of_the_bench(self):
        chance = seeded(1013)
        added = taken = 0
        for _ in range(60):
            bench = Bench(some_book(chance, TWO, 5))
            for _ in range(3):
                before = bench.quarrel_lots()
                number = bench.put(some_saying(chance, TWO))
                behind = bench.quarrel_lots()
                self.assertEqual(set(before), {lot for lot in behind if number not in lot})
                added += before != behind
                numbers = [own for own, _ in bench]
                gone = chance.choice(numbers)
                bench.take(gone)
                self.assertEqual(set(bench.quarrel_lots()), {lot for lot in behind if gone not in lot})
                taken += bench.quarrel_lots() != behind
                numbers = [own for own, _ in bench]
                told = strife(bench.now)
                self.assertEqual(bench.quarrel_lots(),
                                 tuple(tuple(numbers[place] for place in lot) for lot in lots_of(told.quarrels)))
                self.assertEqual(bench.withdrawal_lots(),
                                 tuple(tuple(numbers[place] for place in lot) for lot in lots_of(told.withdrawals)))
        self.assertLess(20, added)
        self.assertLess(10, taken)

    def test_0_5_what_was_read_stays_as_it_was(self):
        bench = Bench(Book(TWO, [A]))
        now, deeds, rows = bench.now, bench.deeds, iter(bench)
        bench.put(B)
        bench.take(0)
        self.assertEqual((now, deeds, list(rows)), (Book(TWO, [A]), (), [(0, A)]))


class Trials(Case):
    def setUp(self):
        self.bench = Bench(Book(TWO, [A]))
        self.bench.put(B)
        self.bench.put(C)
        self.bench.undo()

    def unchanged(self):
        """The bench is as it was, also what was undone and the next number."""
        self.assertEqual(shown(self.bench), ([(0, A), (1, B)], (("put", 1, B),), Book(TWO, [A, B])))
        self.assertEqual(self.bench.redo(), ("put", 2, C))
        self.assertEqual(self.bench.undo(), ("put", 2, C))
        self.assertEqual((self.bench.put(C), self.bench.undo()), (2, ("put", 2, C)))

    def test_10_14_trial(self):
        with self.bench.trial() as held:
            self.assertIs(held, self.bench)
            held.take(0)
            held.put(A)
            held.mend(0)
            self.assertEqual(len(self.bench.deeds), 4)
            self.refuses(NothingDone(), held.redo)
        self.unchanged()
        with self.bench.trial():
            self.bench.undo()
            self.refuses(NothingDone(), self.bench.undo)
        self.unchanged()

    def test_10_14_trial_alone_does_nothing(self):
        trial = self.bench.trial()
        self.bench.take(0)
        with trial:
            self.assertEqual(list(self.bench), [(1, B)])
            self.bench.take(1)
        self.assertEqual((list(self.bench), self.bench.undo()), ([(1, B)], ("take", 0, A)))
        self.assertEqual(self.bench.deeds, (("put", 1, B),))

    def test_10_14_an_error_goes_on(self):
        for error in (KeyError("x"), NoSaying(3), ValueError("y")):
            with self.assertRaises(type(error)) as caught:
                with self.bench.trial() as held:
                    held.take(1)
                    raise error
            self.assertIs(caught.exception, error)
            self.unchanged()
            with self.assertRaises(type(error)) as caught:
                on_trial(self.bench, self.failing_task(error))
            self.assertIs(caught.exception, error)
            self.unchanged()

    def failing_task(self, error):
        def task(bench):
            bench.put(A)
            raise error
        return task

    def test_10_14_trials_within_trials(self):
        with self.bench.trial():
            self.bench.take(0)
            with self.bench.trial() as inner:
                inner.take(1)
                self.assertEqual(len(inner), 0)
                with self.assertRaises(NoSaying):
                    with inner.trial():
                        inner.put(C)
                        inner.take(1)
                self.assertEqual(list(inner), [])
            self.assertEqual(list(self.bench), [(1, B)])
        self.unchanged()

    def test_10_14_on_trial(self):
        def task(bench):
            self.assertIs(bench, self.bench)
            bench.put(A)
            return [number for number, _ in bench], on_trial(bench, lambda own: (own.take(0), len(own)))

        self.assertEqual(on_trial(self.bench, task), ([0, 1, 2], (A, 2)))
        self.unchanged()
        self.assertIsNone(on_trial(self.bench, lambda bench: None))
        self.assertIs(on_trial(self.bench, lambda bench: bench), self.bench)

    def test_10_14_promised(self):
        chance = seeded(10141)
        kinds = set()
        for _ in range(60):
            sayings = [some_saying(chance, TWO) for _ in range(chance.randint(0, 4))]
            found = promised(self.bench, sayings if chance.random() < 0.5 else tuple(sayings))
            plain = lift(Book(TWO, [A, B, *sayings]))
            self.assertIs(type(found), type(plain))
            self.assertEqual((found.reasons, found.heights), (plain.reasons, plain.heights))
            if isinstance(found, Lifted):
                self.assertEqual(found.order, plain.order)
                self.assertTrue(all(plain_keeps(found.order.layers, saying) for saying in sayings))
            kinds.add(type(found))
        self.assertEqual(kinds, {Lifted, Stuck})
        self.unchanged()

    def test_10_14_promised_errors(self):
        self.refuses(BadBook("saying", 3), promised, self.bench, [A, None, Saying(16, 1)])
        self.refuses(BadBook("days", 2), promised, self.bench, [Saying(16, 1), None])
        self.refuses(BadBook("count", None), promised, self.bench, [A] * 11)
        self.unchanged()
        self.assertEqual(promised(self.bench, [A] * 10).order, Order((0, 1, 0, 1)))
        self.unchanged()

    def test_10_12_four_marks(self):
        bench = Bench(Book(FOUR, []))
        self.assertEqual((bench.put(Saying(65535, 1)), len(bench), bench.now.marks), (0, 1, FOUR))
