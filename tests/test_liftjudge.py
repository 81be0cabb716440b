"""The judges of lifting: points 0.6, 3.6, 3.7 and 3.10."""

import itertools

from tests.helpers import ONE, THREE, TWO, Case, all_sayings, bits, keeping, seeded, some_book, some_kept_book
from usualdays.books import Book
from usualdays.errors import OtherDays
from usualdays.lifting import Lifted, Stuck, lift
from usualdays.liftjudge import lifted_fault, stuck_fault
from usualdays.marks import Marks
from usualdays.orders import Order
from usualdays.sayings import Saying

B = Book(Marks(["a", "b"]), [Saying(15, 5), Saying(10, 12), Saying(12, 5, usual=False)])
LEAST = Order([0, 2, 1, 1])
# Day 2 rests on day 3 by a "need not" saying, and day 3 on day 2: so only their heights can be wrong.
RING = Book(TWO, [Saying.of_days(4, 8, False), Saying.of_days(8, 4, False), Saying.of_days(1, 8), Saying.of_days(1, 4)])


def words_of_lifted(sayings, days, lifted):
    """The faults of a Lifted, by the words of the points 3.6 and 3.10."""
    layers = lifted.order.layers
    reasons, heights = lifted.reasons, lifted.heights
    if len(layers) != days:
        return "order"
    if len(reasons) != days or any(r is not None and r not in range(len(sayings)) for r in reasons) or any(
            (r is None) != (layer == 0) for r, layer in zip(reasons, layers)):
        return "reasons"
    if len(heights) != days or min(heights) < 0:
        return "heights"
    if not all(lifted.order.keeps(saying) for saying in sayings):
        return "kept"
    return words_of_both(sayings, reasons, heights, layers, lambda saying, day: all(
        layers[low] + saying.step >= layers[day] for low in bits(saying.low)))


def words_of_stuck(sayings, days, stuck):
    reasons, heights = stuck.reasons, stuck.heights
    if stuck.days not in range(1, 2 ** days):
        return "days"
    if len(reasons) != days or any(r is not None and r not in range(len(sayings)) for r in reasons) or any(
            (r is not None) != (day in bits(stuck.days)) for day, r in enumerate(reasons)):
        return "reasons"
    if len(heights) != days or min(heights) < 0:
        return "heights"
    return words_of_both(sayings, reasons, heights, [0] * days,
                         lambda saying, day: all(low in bits(stuck.days) for low in bits(saying.low)))


def words_of_both(sayings, reasons, heights, layers, low_is_right):
    given = {day: sayings[reason] for day, reason in enumerate(reasons) if reason is not None}
    if any(day not in bits(saying.high) for day, saying in given.items()):
        return "high"
    if not all(low_is_right(saying, day) for day, saying in given.items()):
        return "low"
    for day, saying in given.items():
        for low in bits(saying.low):
            if saying.step == 0 and low in given and given[low].step == 0 and layers[low] == layers[day]:
                if not heights[low] < heights[day]:
                    return "ring"
    return None


class LiftedJudge(Case):
    def judged(self, word, order, reasons, heights, *further, book=B):
        self.assertEqual(lifted_fault(book, Lifted(order, reasons, heights), *further), word)

    def test_3_10_right(self):
        self.judged(None, LEAST, (None, 1, 2, 0), (0, 0, 1, 0))
        self.judged(None, LEAST, (None, 1, 2, 0), (9, 0, 0, 9))
        self.judged(None, Order.flat(4), (None,) * 4, (0,) * 4, book=Book(TWO, []))

    def test_3_10_order(self):
        self.judged("order", Order([0, 2]), (None, 1, 2, 0), (0, 0, 1, 0))
        self.judged("order", Order.flat(16), (None,), ())

    def test_3_10_reasons(self):
        for reasons in ((), (None, 1, 2), (None, 1, 2, 0, 0), (None, 1, 3, 0), (None, -1, 2, 0), (None, 1, 2, None),
                        (None, None, 2, 0), (0, 1, 2, 0), (None, 1, 2, True), (None, 1, 2, -3)):
            self.judged("reasons", LEAST, reasons, (0, 0, 1, 0))
            self.judged("reasons", LEAST, reasons, (-1,))

    def test_3_10_heights(self):
        for heights in ((), (0, 0, 1), (0, 0, 1, 0, 0), (-1, 0, 1, 0), (0, 0, 1, -5)):
            self.judged("heights", LEAST, (None, 1, 2, 0), heights)
            self.judged("heights", LEAST, (None, 0, 0, 1), heights)

    def test_3_10_kept(self):
        self.judged("kept", Order([0, 1, 1, 1]), (None, 0, 2, 0), (0, 0, 1, 0))
        self.judged("kept", Order([0, 2, 0, 1]), (None, 2, None, 2), (0, 0, 1, 0))

    def test_3_10_high(self):
        self.judged("high", LEAST, (None, 2, 2, 0), (0, 0, 1, 0))
        self.judged("high", LEAST, (None, 0, 2, 2), (0, 0, 1, 0))
        self.judged("high", LEAST, (None, 0, 0, 0), (0, 0, 1, 0))

    def test_3_10_low(self):
        self.judged("low", LEAST, (None, 0, 2, 0), (0, 0, 1, 0))
        self.judged("low", Order([0, 3, 1, 1]), (None, 1, 2, 0), (0, 0, 1, 0))
        self.judged("low", Order([0, 9, 8, 8]), (None, 1, 2, 0), (0, 0, 1, 0))

    def test_3_10_ring(self):
        order = Order([0, 0, 1, 1])
        for heights in ((0,) * 4, (0, 0, 1, 2), (0, 0, 2, 1)):
            self.judged("ring", order, (None, None, 0, 1), heights, book=RING)
        self.judged(None, order, (None, None, 0, 2), (0, 0, 0, 0), book=RING)
        self.judged(None, order, (None, None, 3, 1), (0, 0, 0, 0), book=RING)
        self.judged(None, order, (None, None, 3, 2), (0, 0, 0, 0), book=RING)

    def test_3_6_only_the_same_layer_and_step_0_count(self):
        book = Book(THREE, [Saying.of_days(1, 2), Saying.of_days(2, 4), Saying.of_days(8, 4, False),
                            Saying.of_days(16, 10, False), Saying.of_days(32, 16, False)])
        order, reasons = Order([0, 1, 2, 2, 1, 1, 0, 0]), (None, 0, 1, 2, 3, 4, None, None)
        self.judged(None, order, reasons, (0, 9, 9, 9, 0, 1, 0, 0), book=book)
        self.judged("ring", order, reasons, (0, 9, 9, 9, 1, 1, 0, 0), book=book)

    def test_3_10_further_sayings(self):
        self.judged(None, Order([0, 2, 1, 3]), (None, 3, 4, 5), (0,) * 4, Saying.of_days(4, 2), Saying.of_days(1, 4),
                    Saying.of_days(2, 8), book=Book(TWO, [Saying(15, 15)] * 3))
        self.judged("kept", LEAST, (None, 1, 2, 0), (0, 0, 1, 0), Saying(15, 8))
        self.judged("reasons", LEAST, (None, 4, 2, 0), (0, 0, 1, 0), Saying(15, 15))

    def test_3_10_other_days(self):
        self.refuses(OtherDays(), lifted_fault, B, Lifted(Order.flat(2), (), ()), Saying(16, 1))

    def test_3_10_against_the_words_of_the_text(self):
        chance = seeded(310)
        words = set()
        for _ in range(4000):
            book = some_book(chance, TWO, 5) if chance.random() < 0.2 else some_kept_book(chance, TWO, 5)
            found = lift(book)
            if isinstance(found, Stuck):
                continue
            layers, reasons, heights = list(found.order.layers), list(found.reasons), list(found.heights)
            for _ in range(chance.randint(0, 2)):
                day = chance.randint(0, 3)
                chance.choice((lambda: layers.__setitem__(day, chance.randint(0, 3)),
                               lambda: reasons.__setitem__(day, chance.choice((None, 0, 1, 2, 3, 4, -1))),
                               lambda: heights.__setitem__(day, chance.randint(-1, 3))))()
            paper = Lifted(Order.lowered(layers), tuple(reasons), tuple(heights))
            word = words_of_lifted(list(book), 4, paper)
            words.add(word)
            self.assertEqual(lifted_fault(book, paper), word)
            if word is None:
                self.assertEqual(paper.order, found.order)
        self.assertEqual(words, {None, "reasons", "heights", "kept", "high", "low", "ring"})


class StuckJudge(Case):
    def judged(self, word, days, reasons, heights, *further, book=B):
        self.assertEqual(stuck_fault(book, Stuck(days, reasons, heights), *further), word)

    def test_3_10_right(self):
        self.judged(None, 14, (None, 1, 2, 3), (0, 0, 0, 0), Saying.of_days(2, 8))
        self.judged(None, 4, (None, None, 0, None), (0, 0, 0, 0), book=Book(TWO, [Saying(4, 0)]))

    def test_3_7_the_days_need_not_be_the_greatest(self):
        book = Book(TWO, [Saying(4, 0), Saying(8, 0)])
        self.assertEqual(lift(book).days, 12)
        self.judged(None, 4, (None, None, 0, None), (0, 0, 0, 0), book=book)
        self.judged(None, 8, (None, None, None, 1), (0, 0, 0, 0), book=book)
        self.judged(None, 12, (None, None, 0, 1), (0, 0, 0, 0), book=book)

    def test_3_10_days(self):
        for days in (0, 16, -1, 31):
            self.judged("days", days, (None, 1, 2, 3), (0, 0, 0, 0), Saying.of_days(2, 8))
            self.judged("days", days, (), ())

    def test_3_10_reasons(self):
        for reasons in ((), (None, 1, 2), (None, 1, 2, 3, None), (None, 1, 2, 4), (None, 1, 2, -1), (0, 1, 2, 3),
                        (None, 1, None, 3), (None, True, 2, 3)):
            self.judged("reasons", 14, reasons, (0, 0, 0, 0), Saying.of_days(2, 8))
            self.judged("reasons", 14, reasons, (), Saying.of_days(2, 8))

    def test_3_10_heights(self):
        for heights in ((), (0, 0, 0), (0, 0, 0, 0, 0), (-1, 0, 0, 0), (0, 0, 0, -1)):
            self.judged("heights", 14, (None, 1, 2, 3), heights, Saying.of_days(2, 8))
            self.judged("heights", 14, (None, 0, 0, 0), heights, Saying.of_days(2, 8))

    def test_3_10_high(self):
        self.judged("high", 14, (None, 1, 3, 3), (0, 0, 0, 0), Saying.of_days(2, 8))
        self.judged("high", 14, (None, 3, 2, 0), (0, 0, 0, 0), Saying.of_days(2, 8))

    def test_3_10_low(self):
        self.judged("low", 14, (None, 0, 2, 3), (0, 0, 0, 0), Saying.of_days(2, 8))
        self.judged("low", 2, (None, 1, None, None), (0, 0, 0, 0))

    def test_3_10_ring(self):
        book = Book(TWO, [Saying.of_days(4, 8, False), Saying.of_days(8, 4, False)])
        for heights in ((0,) * 4, (0, 0, 1, 2), (0, 0, 2, 1)):
            self.judged("ring", 12, (None, None, 0, 1), heights, book=book)
        long_ring = Book(TWO, [Saying.of_days(4, 2, False), Saying.of_days(8, 4, False), Saying.of_days(2, 8, False)])
        self.judged("ring", 14, (None, 2, 0, 1), (0, 1, 2, 3), book=long_ring)
        self.judged("ring", 14, (None, 2, 0, 1), (0, 3, 2, 1), book=long_ring)

    def test_3_7_only_step_0_counts(self):
        book = Book(TWO, [Saying.of_days(4, 8, False), Saying.of_days(4, 8)])
        self.judged(None, 12, (None, None, 0, 1), (0, 0, 0, 0), book=book)
        self.judged(None, 12, (None, None, 0, 1), (0, 0, 0, 5), book=book)

    def test_3_10_other_days(self):
        self.refuses(OtherDays(), stuck_fault, B, Stuck(0, (), ()), Saying(1, 16))

    def test_3_7_every_right_paper_shows_that_no_order_keeps_the_book(self):
        sayings = [saying for saying in all_sayings(ONE) if saying.high]
        rows = [(None, 0, 1), (None, 0, 1)]
        for pair in itertools.product(sayings, repeat=2):
            book = Book(ONE, pair)
            shown = False
            for days, reasons, heights in itertools.product(range(4), itertools.product(*rows),
                                                            itertools.product((0, 1), repeat=2)):
                paper = Stuck(days, reasons, heights)
                word = words_of_stuck(pair, 2, paper)
                self.assertEqual(stuck_fault(book, paper), word)
                shown = shown or word is None
            self.assertEqual(shown, keeping(book) == [])

    def test_3_10_against_the_words_of_the_text(self):
        chance = seeded(311)
        words = set()
        for _ in range(4000):
            book = some_book(chance, TWO, 6, usual=chance.choice((None, None, False)))
            found = lift(book)
            if isinstance(found, Lifted):
                continue
            days, reasons, heights = found.days, list(found.reasons), list(found.heights)
            for _ in range(chance.randint(0, 2)):
                day = chance.randint(0, 3)
                if chance.random() < 0.5:
                    reasons[day] = chance.choice((None, 0, 1, 2, 3, 4, 5))
                else:
                    heights[day] = chance.randint(-1, 3)
            if chance.random() < 0.2:
                days = chance.randint(0, 16)
            paper = Stuck(days, tuple(reasons), tuple(heights))
            word = words_of_stuck(list(book), 4, paper)
            words.add(word)
            self.assertEqual(stuck_fault(book, paper), word)
            if word is None:
                self.assertEqual(paper.days & ~found.days, 0)
        self.assertEqual(words, {None, "days", "reasons", "heights", "high", "low", "ring"})
