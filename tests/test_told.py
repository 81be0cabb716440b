"""What all orders tell: points 0.3 and 4.1 to 4.3."""

from tests.helpers import (FOUR, ONE, THREE, TWO, Case, all_sayings, keeping, plain_keeps, plain_tells, seeded,
                           some_book, some_kept_book, some_saying)
from usualdays.books import Book
from usualdays.errors import OtherDays
from usualdays.lifting import Stuck, lift
from usualdays.lots import sharp_lot
from usualdays.orders import Order
from usualdays.sayings import Saying
from usualdays.told import NotTold, Told, standing, tell, tell_fault

B = Book(TWO, [Saying(15, 5), Saying(10, 12)])
BROKEN = Book(TWO, [Saying(4, 0)])
FOREIGN = (Saying(16, 1), Saying(1, 16), Saying(65535, 3, False))


class Telling(Case):
    def against_all_orders(self, book, saying):
        answer = tell(book, saying)
        told = plain_tells(book, saying)
        self.assertIsInstance(answer, Told if told else NotTold)
        self.assertIsNone(tell_fault(book, saying, answer))
        if told:
            self.assertEqual(answer.stuck.days, lift(book, saying.contrary()).days)
        else:
            orders = [layers for layers in keeping(book) if not plain_keeps(layers, saying)]
            self.assertEqual(answer.order.layers, tuple(min(layers) for layers in zip(*orders)))
        orders = keeping(book)
        kept = [plain_keeps(layers, saying) for layers in orders]
        word = "all" if not orders else "told" if all(kept) else "open" if any(kept) else "barred"
        self.assertEqual(standing(book, saying), word)
        return word

    def test_4_1_one_mark(self):
        sayings = all_sayings(ONE)
        for one in sayings:
            for other in sayings:
                for saying in sayings:
                    self.against_all_orders(Book(ONE, [one, other]), saying)

    def test_4_1_two_marks(self):
        chance = seeded(41)
        words = set()
        for _ in range(300):
            words.add(self.against_all_orders(some_book(chance, TWO, 5), some_saying(chance, TWO)))
            words.add(self.against_all_orders(some_kept_book(chance, TWO, 4), some_saying(chance, TWO)))
        self.assertEqual(words, {"all", "told", "barred", "open"})
        for saying in all_sayings(TWO):
            self.against_all_orders(B, saying)
            self.against_all_orders(BROKEN, saying)

    def test_4_1_more_marks_by_the_judge(self):
        chance = seeded(411)
        kinds = set()
        for marks in (THREE, FOUR):
            for _ in range(200):
                book = some_kept_book(chance, marks, 12) if chance.random() < 0.7 else some_book(chance, marks, 12)
                saying = some_saying(chance, marks)
                answer = tell(book, saying)
                kinds.add((type(answer), isinstance(lift(book), Stuck)))
                self.assertIsNone(tell_fault(book, saying, answer))
        self.assertEqual(len(kinds), 3)

    def test_4_1_books_without_and_with_twelve_sayings(self):
        empty = Book(TWO, [])
        for saying in all_sayings(TWO):
            self.against_all_orders(empty, saying)
            self.against_all_orders(Book(TWO, [saying] * 12), saying)
        self.assertIsInstance(tell(Book(TWO, [Saying(15, 5)] * 12), Saying(15, 5)), Told)

    def test_0_3_yielding_and_telling(self):
        sayings = all_sayings(TWO, usual=True)
        chance = seeded(3)
        for _ in range(80):
            book = some_book(chance, TWO, 4, usual=True)
            kept = keeping(book) != []
            for saying in sayings:
                yields, told = sharp_lot(book, saying) is not None, plain_tells(book, saying)
                if yields:
                    self.assertTrue(told)
                if kept and told:
                    self.assertTrue(yields)

    def test_4_1_other_days(self):
        for saying in FOREIGN:
            self.refuses(OtherDays(), tell, B, saying)
            self.refuses(OtherDays(), standing, B, saying)
            self.refuses(OtherDays(), standing, BROKEN, saying)
            self.refuses(OtherDays(), tell_fault, B, saying, None)

    def test_example_of_part_4(self):
        self.assertEqual(tell(B, Saying(12, 5)).order.layers, (0, 2, 1, 1))
        self.assertEqual(standing(B, Saying(15, 13)), "told")

    def test_0_6_results_keep_their_arguments(self):
        stuck, order = Stuck(1, (0, None), (0, 0)), Order([0, 1])
        self.assertEqual(vars(Told(stuck)), {"stuck": stuck})
        self.assertEqual(vars(NotTold(order)), {"order": order})


class Judging(Case):
    def test_4_2_answer(self):
        for thing in (None, True, "told", lift(B), Order.flat(4), (), lift(BROKEN)):
            self.assertEqual(tell_fault(B, Saying(12, 5), thing), "answer")

    def test_4_2_stuck(self):
        saying = Saying(15, 13)
        right = tell(B, saying)
        self.assertIsNone(tell_fault(B, saying, right))
        days, reasons, heights = right.stuck.days, right.stuck.reasons, right.stuck.heights
        for stuck in (Stuck(0, reasons, heights), Stuck(days, (None,) * 4, heights), Stuck(days, reasons, ())):
            self.assertEqual(tell_fault(B, saying, Told(stuck)), "stuck")
        self.assertEqual(tell_fault(B, Saying(12, 5), right), "stuck")
        self.assertEqual(tell_fault(Book(TWO, []), saying, right), "stuck")

    def test_4_2_days_book_saying(self):
        saying = Saying(12, 5)
        for layers, word in (((0, 2), "days"), ((0,) * 8, "days"), ((0, 0, 0, 0), "book"), ((0, 1, 1, 1), "book"),
                             ((0, 2, 0, 1), "saying"), ((0, 2, 1, 1), None), ((0, 9, 5, 3), None), ((0, 7, 9, 3), None),
                             ((0, 0, 5, 1), "book")):
            self.assertEqual(tell_fault(B, saying, NotTold(Order(layers))), word, layers)
        self.assertEqual(tell_fault(B, Saying(15, 15), NotTold(Order([0, 2, 1, 1]))), "saying")
