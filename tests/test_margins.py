"""Margins: points 4.9 to 4.13."""

from tests.helpers import (FOUR, ONE, STRANGE, THREE, TWO, Case, bits, keeping, lowest, plain_tells, seeded, some_book,
                           some_kept_book)
from usualdays.books import Book
from usualdays.errors import BadDays
from usualdays.lifting import Stuck, lift
from usualdays.liftjudge import stuck_fault
from usualdays.margins import Loose, Margin, margin, margin_fault, order_apart, relation
from usualdays.orders import Order
from usualdays.sayings import Saying

B = Book(TWO, [Saying(15, 5), Saying(10, 12)])
BROKEN = Book(TWO, [Saying(4, 0)])
BOOKS = (B, BROKEN, Book(TWO, []), Book(TWO, [Saying(15, 5, False), Saying(3, 1)]))


def apart(layers, one, other):
    return lowest(layers, other) - lowest(layers, one)


class Margins(Case):
    def against_all_orders(self, book, one, other):
        """Compares with all orders without gaps; closing the gaps makes no negative difference positive or 0."""
        answer = margin(book, one, other)
        orders = keeping(book)
        if not orders:
            self.assertIsInstance(answer, Stuck)
            self.assertIsNone(stuck_fault(book, answer))
            self.assertEqual(answer.days, lift(book).days)
            return None
        least = min(apart(layers, one, other) for layers in orders)
        self.assertIsNone(margin_fault(book, one, other, answer))
        if least < 0:
            self.assertIsInstance(answer, Loose)
            return None
        self.assertIsInstance(answer, Margin)
        self.assertEqual(answer.many, least)
        for thing in (answer.offsets, answer.reasons, answer.heights):
            self.assertIs(type(thing), tuple)
            self.assertEqual(len(thing), book.marks.days)
        for day, offset in enumerate(answer.offsets):
            if offset is not None:
                self.assertTrue(all(layers[day] >= lowest(layers, one) + offset for layers in orders))
        return least

    def test_4_9_all_orders(self):
        chance = seeded(49)
        found = set()
        for marks in (ONE, TWO):
            for _ in range(150):
                book = some_kept_book(chance, marks, 6) if chance.random() < 0.8 else some_book(chance, marks, 5)
                for _ in range(4):
                    one, other = chance.randint(1, marks.all_days), chance.randint(1, marks.all_days)
                    found.add(self.against_all_orders(book, one, other))
        self.assertLessEqual({None, 0, 1, 2}, found)

    def test_4_9_all_day_sets_of_some_books(self):
        for book in BOOKS:
            for one in range(1, 16):
                for other in range(1, 16):
                    self.against_all_orders(book, one, other)

    def test_4_9_more_marks_by_the_judge(self):
        chance = seeded(491)
        kinds = set()
        for marks in (THREE, FOUR):
            for _ in range(200):
                book = some_kept_book(chance, marks, 12, chance.choice((None, True, False)))
                one = 2 ** chance.randint(0, marks.days - 1)
                other = 2 ** chance.randint(0, marks.days - 1) | 2 ** chance.randint(0, marks.days - 1)
                answer = margin(book, one, other)
                kinds.add(type(answer))
                self.assertIsNone(margin_fault(book, one, other, answer))
        self.assertEqual(kinds, {Margin, Loose})

    def test_4_9_a_high_margin(self):
        book = Book(FOUR, [Saying.of_days(2 ** day, 2 ** (day + 1)) for day in range(12)])
        answer = margin(book, 1, 2 ** 12)
        self.assertEqual((answer.many, answer.offsets[:13]), (12, tuple(range(13))))
        self.assertEqual(apart(answer.order, 1, 2 ** 12), 12)
        self.assertEqual(answer.reasons[:13], (None,) + tuple(range(12)))
        self.assertEqual(answer.offsets[13:], (None,) * 3)
        self.assertIsInstance(margin(book, 2 ** 12, 1), Loose)

    def test_4_9_days_above_others_from_the_beginning(self):
        book = Book(THREE, [Saying.of_days(1, 2), Saying.of_days(2, 4), Saying.of_days(4, 8), Saying.of_days(8, 16)])
        answer = margin(book, 8, 16)
        self.assertEqual((answer.many, answer.offsets), (1, (None, None, None, 0, 1, None, None, None)))
        self.assertEqual(answer.reasons, (None, None, None, None, 3, None, None, None))
        self.assertIsNone(margin_fault(book, 8, 16, answer))

    def test_4_9_raising(self):
        chance = seeded(492)
        for _ in range(200):
            marks = chance.choice((TWO, THREE, FOUR))
            book = some_kept_book(chance, marks, 8)
            one, other = chance.randint(1, marks.all_days), chance.randint(1, marks.all_days)
            answer = margin(book, one, other)
            if isinstance(answer, Loose):
                self.assertEqual(one & ~answer.raised, 0)
                for more in (0, 1, 7, 10 ** 29):
                    layers = [layer + more if day in bits(answer.raised) else layer
                              for day, layer in enumerate(answer.order)]
                    raised = Order.lowered(layers)
                    self.assertTrue(raised.keeps_all(book))
                    self.assertLess(apart(raised, one, other), 0)

    def test_4_9_bad_days(self):
        for book in (B, BROKEN):
            for thing in STRANGE + (0, 16, 65535, [1]):
                for ask in (margin, relation, lambda book, one, other: order_apart(book, one, other, 0)):
                    self.refuses(BadDays(), ask, book, thing, 1)
                    self.refuses(BadDays(), ask, book, 1, thing)

    def test_0_6_results_keep_their_arguments(self):
        order = Order([0, 1])
        self.assertEqual(vars(Margin(1, order, (0, 1), (None, 0), (0, 0))), {
            "many": 1, "order": order, "offsets": (0, 1), "reasons": (None, 0), "heights": (0, 0)})
        self.assertEqual(vars(Loose(order, 3)), {"order": order, "raised": 3})


class Judging(Case):
    """The book B sets day 1 two above the days 0 and 2, for day 3 lies between them."""

    def judged(self, word, many, layers, offsets, reasons, heights=(0, 0, 0, 0), book=B, one=5, other=2):
        answer = Margin(many, Order(layers), offsets, reasons, heights)
        self.assertEqual(margin_fault(book, one, other, answer), word)

    def test_4_11_right(self):
        self.judged(None, 2, (0, 2, 0, 1), (0, 2, 0, 1), (None, 1, None, 0))
        self.judged(None, 2, (0, 2, 7, 1), (0, 2, 0, 1), (None, 1, None, 0), (9, 8, 7, 6))

    def test_4_11_answer(self):
        for thing in (None, True, "level", lift(B), lift(BROKEN), Order.flat(4), 2):
            self.assertEqual(margin_fault(B, 5, 2, thing), "answer")
        self.assertEqual(margin_fault(BROKEN, 5, 2, lift(BROKEN)), "answer")

    def test_4_11_order(self):
        for layers in ((0, 2), (0,) * 8, (0, 0, 0, 0), (0, 1, 0, 1)):
            self.judged("order", 2, layers, (-1, 2, 0, 1), (None, 1, None, 0))
            self.assertEqual(margin_fault(B, 2, 5, Loose(Order(layers), 0)), "order")

    def test_4_11_offsets(self):
        for offsets in ((-1, 2, 0, 1), (0, None, 0, 1), (0, 2, 0, -1), (0, -2, 0, 1)):
            self.judged("offsets", 7, (0, 2, 0, 1), offsets, (None, 1, None, 0))
        self.judged("offsets", 0, (0, 2, 0, 1), (0, 2, None, 1), (None, 1, None, 0), other=6, book=B)

    def test_4_11_many(self):
        self.judged("many", 1, (0, 2, 0, 1), (0, 2, 0, 1), (None, 1, None, 0))
        self.judged("many", 3, (0, 2, 0, 1), (0, 2, 0, 1), (None, 1, None, 0))
        self.judged("many", 3, (0, 3, 0, 1), (0, 2, 0, 1), (None, None, None, 0))
        self.judged("many", 2, (0, 3, 0, 1), (0, 2, 0, 1), (None, 1, None, 0))
        self.judged("many", 1, (0, 2, 0, 1), (0, 1, 0, 1), (None, 1, None, 0))
        self.judged("many", 2, (0, 2, 0, 1), (0, 2, 0, 1), (None, 1, None, 0), other=10)

    def test_4_11_reasons(self):
        for reasons in ((0, 1, None, 0), (None, None, None, 0), (None, 1, 1, 0), (None, 1, None, None),
                        (None, 2, None, 0), (None, -1, None, 0), (None, 1, None, True)):
            self.judged("reasons", 2, (0, 2, 0, 1), (0, 2, 0, 1), reasons)
        self.judged("reasons", 2, (0, 2, 0, 1), (0, 2, None, 1), (None, 1, 0, 0))
        self.judged("reasons", 2, (0, 2, 0, 1), (0, 2, 1, 1), (None, 1, None, 0))

    def test_4_11_high(self):
        self.judged("high", 2, (0, 2, 0, 1), (0, 2, 0, 1), (None, 1, None, 1))
        self.judged("high", 2, (0, 2, 0, 1), (0, 2, 3, 1), (None, 0, 0, 0))

    def test_4_11_low(self):
        self.judged("low", 2, (0, 2, 0, 1), (0, 2, 0, None), (None, 1, None, None))
        self.judged("low", 2, (0, 2, 0, 1), (0, 2, 0, 0), (None, 1, None, 0))
        self.judged("low", 2, (0, 2, 0, 1), (0, 2, 0, 2), (None, 1, None, 0))
        self.judged("low", 2, (0, 2, 0, 1), (0, 2, None, 1), (None, 1, None, 0))
        self.judged("low", 2, (0, 2, 0, 1), (0, 2, 0, 1), (None, 0, None, 0))

    def test_4_11_ring(self):
        ring = Book(TWO, [Saying.of_days(4, 8, False), Saying.of_days(8, 4, False), Saying.of_days(4, 1, False)])
        for heights in ((0,) * 4, (0, 0, 1, 2), (0, 0, 2, 1)):
            self.judged("ring", 0, (0, 0, 0, 0), (0, None, 0, 0), (None, None, 0, 1), heights, ring, 1, 12)
        self.judged(None, 0, (0, 0, 0, 0), (0, None, 0, 0), (None, None, 2, 1), (0, 0, 0, 1), ring, 1, 12)
        self.judged("ring", 0, (0, 0, 0, 0), (0, None, 0, 0), (None, None, 2, 1), (0, 0, 0, 0), ring, 1, 12)

    def test_4_11_against_the_words_of_the_text(self):
        chance = seeded(410)
        words = set()
        for _ in range(3000):
            book = some_kept_book(chance, TWO, 5)
            one, other = 2 ** chance.randint(0, 3), chance.randint(1, 15)
            answer = margin(book, one, other)
            if isinstance(answer, Loose):
                continue
            offsets, reasons, heights = list(answer.offsets), list(answer.reasons), list(answer.heights)
            for _ in range(chance.randint(0, 2)):
                day = chance.randint(0, 3)
                chance.choice((lambda: offsets.__setitem__(day, chance.choice((None, 0, 0, 1, 2, -1))),
                               lambda: reasons.__setitem__(day, chance.choice((None, 0, 1, 2, 3, 4, 5))),
                               lambda: heights.__setitem__(day, chance.randint(0, 3))))()
            paper = Margin(answer.many, answer.order, tuple(offsets), tuple(reasons), tuple(heights))
            word = words_of_margin(list(book), one, other, paper)
            words.add(word)
            self.assertEqual(margin_fault(book, one, other, paper), word)
            if word is None:
                orders = keeping(book)
                for day, offset in enumerate(offsets):
                    self.assertTrue(offset is None or all(o[day] >= lowest(o, one) + offset for o in orders))
        self.assertEqual(words, {None, "offsets", "many", "reasons", "high", "low", "ring"})

    def test_4_11_loose(self):
        def judged(word, layers, raised, book=B, one=2, other=1):
            self.assertEqual(margin_fault(book, one, other, Loose(Order(layers), raised)), word)

        judged(None, (0, 2, 0, 1), 2)
        judged(None, (0, 2, 0, 1), 10)
        judged(None, (0, 2, 5, 1), 14)
        for raised in (0, 1, 4, 8, 12, 3, 15):
            judged("raised", (0, 2, 0, 1), raised)
        judged("raised", (0, 2, 0, 1), 8, one=8, other=1)
        judged("raised", (0, 2, 5, 1), 11, one=2, other=5)
        judged(None, (0, 2, 5, 1), 14, one=2, other=5)
        judged("raised", (0, 2, 0, 1), 2 + 8, one=8, other=2)
        empty = Book(TWO, [])
        judged("many", (0, 0, 0, 0), 2, book=empty)
        judged("many", (1, 0, 0, 0), 2, book=empty)
        judged("raised", (1, 0, 0, 0), 0, book=empty)
        judged(None, (0, 1, 0, 0), 2, book=empty)

    def test_4_11_loose_and_steps(self):
        usual, need_not = Book(TWO, [Saying.of_days(3, 4)]), Book(TWO, [Saying.of_days(4, 3, False)])
        for book, layers, raised, word in (
                (usual, (0, 0, 1, 0), 1, None), (usual, (0, 0, 1, 0), 3, "raised"), (usual, (0, 1, 1, 0), 1, "raised"),
                (usual, (0, 1, 2, 0), 1, None), (need_not, (0, 1, 1, 0), 1, None), (need_not, (0, 1, 1, 0), 3, "raised"),
                (need_not, (0, 2, 1, 0), 1, "raised")):
            found = margin_fault(book, 1, 8, Loose(Order(layers), raised))
            self.assertEqual(found if found != "many" else None, word, (layers, raised))


def words_of_margin(sayings, one, other, answer):
    """The faults of a Margin whose order keeps the book, by the words of the points 4.10 and 4.11."""
    offsets, reasons, heights = answer.offsets, answer.reasons, answer.heights
    if any(n is not None and n < 0 for n in offsets) or any(offsets[day] is None for day in bits(other)):
        return "offsets"
    least = min(offsets[day] for day in bits(other))
    if answer.many != least or answer.many != apart(answer.order.layers, one, other):
        return "many"
    for day, reason in enumerate(reasons):
        needless = offsets[day] is None or (day in bits(one) and offsets[day] == 0)
        if (reason is None) != needless or reason not in [None] + list(range(len(sayings))):
            return "reasons"
    given = {day: sayings[reason] for day, reason in enumerate(reasons) if reason is not None}
    if not all(day in bits(saying.high) for day, saying in given.items()):
        return "high"
    for day, saying in given.items():
        for low in bits(saying.low):
            if offsets[low] is None or offsets[low] < offsets[day] - saying.step:
                return "low"
    for day, saying in given.items():
        for low in bits(saying.low):
            if saying.step == 0 and low in given and given[low].step == 0 and offsets[low] == offsets[day]:
                if heights[low] >= heights[day]:
                    return "ring"
    return None


class Relations(Case):
    def test_4_12_all_orders(self):
        chance = seeded(412)
        words = set()
        for _ in range(150):
            marks = chance.choice((ONE, TWO))
            book = some_kept_book(chance, marks, 4) if chance.random() < 0.9 else some_book(chance, marks, 5)
            for _ in range(4):
                one, other = chance.randint(1, marks.all_days), chance.randint(1, marks.all_days)
                word = relation(book, one, other)
                words.add(word)
                self.assertEqual(word, self.plain_relation(keeping(book), one, other))
        self.assertEqual(words, {"all", "level", "below", "not above", "above", "not below", "free"})

    def plain_relation(self, orders, one, other):
        if not orders:
            return "all"
        differences = [apart(layers, one, other) for layers in orders]
        if min(differences) == max(differences) == 0:
            return "level"
        if min(differences) >= 0:
            return "below" if min(differences) > 0 else "not above"
        if max(differences) <= 0:
            return "above" if max(differences) < 0 else "not below"
        return "free"

    def test_4_12_examples(self):
        for book, one, other, word in ((B, 4, 8, "free"), (B, 5, 2, "below"), (B, 2, 5, "above"), (B, 1, 1, "level"),
                                       (B, 5, 1, "not above"), (B, 1, 5, "not below"), (BROKEN, 1, 2, "all")):
            self.assertEqual(relation(book, one, other), word)

    def test_4_12_what_telling_means(self):
        chance = seeded(4121)
        for _ in range(60):
            book = some_kept_book(chance, TWO, 4) if chance.random() < 0.8 else some_book(chance, TWO, 5)
            for _ in range(10):
                saying = Saying(chance.randint(1, 15), chance.randint(0, 15))
                told = not saying.broken or relation(book, 1, 1) == "all" or bool(
                    saying.confirm and relation(book, saying.confirm, saying.broken) == "below")
                self.assertEqual(plain_tells(book, saying), told)


class Apart(Case):
    def possible(self, book, one, other):
        """Tells for a number whether point 4.13 says that there is such an order."""
        m, w = margin(book, one, other), margin(book, other, one)
        if isinstance(m, Stuck):
            return lambda many: False
        least = m.many if isinstance(m, Margin) else None
        most = -w.many if isinstance(w, Margin) else None
        return lambda many: (least is None or many >= least) and (most is None or many <= most)

    def compared(self, book, one, other, numbers):
        possible = self.possible(book, one, other)
        for many in numbers:
            order = order_apart(book, one, other, many)
            self.assertEqual(order is not None, possible(many), many)
            if order is not None:
                self.assertIsInstance(order, Order)
                self.assertEqual(len(order), book.marks.days)
                self.assertTrue(order.keeps_all(book))
                self.assertEqual(apart(order, one, other), many)

    def test_4_13_small_numbers(self):
        chance = seeded(413)
        for marks in (ONE, TWO, THREE, FOUR):
            for _ in range(80):
                book = some_kept_book(chance, marks, 6) if chance.random() < 0.9 else some_book(chance, marks, 6)
                one, other = chance.randint(1, marks.all_days), chance.randint(1, marks.all_days)
                if chance.random() < 0.5:
                    one, other = 2 ** chance.randint(0, marks.days - 1), 2 ** chance.randint(0, marks.days - 1)
                self.compared(book, one, other, range(-6, 7))

    def test_4_13_great_numbers(self):
        chance = seeded(4131)
        top = 10 ** 29
        for marks in (TWO, FOUR):
            for _ in range(60):
                book = some_kept_book(chance, marks, 6)
                one, other = 2 ** chance.randint(0, marks.days - 1), 2 ** chance.randint(0, marks.days - 1)
                self.compared(book, one, other, (-top, 1 - top, -40, -17, 0, 17, 40, top - 1, top))

    def test_4_13_all_day_sets_of_some_books(self):
        for book in BOOKS:
            for one in range(1, 16):
                for other in range(1, 16):
                    self.compared(book, one, other, (-3, -2, -1, 0, 1, 2, 3))

    def test_4_13_days_above_others_from_the_beginning(self):
        book = Book(FOUR, [Saying.of_days(2 ** day, 2 ** (day + 1)) for day in range(12)])
        self.compared(book, 2 ** 5, 2 ** 12, (6, 7, 8, 100, 10 ** 29))
        self.compared(book, 2 ** 12, 2 ** 5, (-6, -7, -8, 0, 7, -100, -10 ** 29))
        self.compared(book, 2 ** 12, 2 ** 15, (-20, -12, -1, 0, 1, 12, 20, 10 ** 29))

    def test_4_13_one_number_alone(self):
        book = Book(TWO, [Saying.of_days(1, 2, False), Saying.of_days(2, 1, False)])
        self.assertEqual(relation(book, 1, 2), "level")
        self.compared(book, 1, 2, range(-3, 4))
        self.assertIsNone(order_apart(book, 1, 2, 1))
        self.assertIsNotNone(order_apart(book, 1, 2, 0))

    def test_example_of_part_4(self):
        self.assertEqual((margin(B, 5, 2).many, relation(B, 4, 8), order_apart(B, 5, 8, 0)), (2, "free", None))
