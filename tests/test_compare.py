"""Comparing books: points 8.1 to 8.3."""

from tests.helpers import (FOUR, ONE, THREE, TWO, Case, all_sayings, keeping, plain_keeps, plain_tells, seeded,
                           some_book, some_kept_book, some_saying)
from usualdays.books import Book
from usualdays.compare import Compared, compare_books, compare_fault
from usualdays.errors import OtherDays
from usualdays.lifting import Stuck
from usualdays.marks import Marks
from usualdays.orders import Order
from usualdays.sayings import Saying
from usualdays.told import NotTold, Told, tell, tell_fault

B = Book(TWO, [Saying(15, 5), Saying(10, 12)])
BROKEN = Book(TWO, [Saying(4, 0)])
EMPTY = Book(TWO, [])
TOLD, NOT_TOLD = Told(None), NotTold(None)


def some_pair(chance, marks, most):
    """Two books, of which the second one is often made of the first one's sayings."""
    one = some_book(chance, marks, most) if chance.random() < 0.3 else some_kept_book(chance, marks,
                                                                                      chance.randint(0, most))
    if chance.random() < 0.3:
        return one, some_book(chance, marks, most)
    sayings = [saying for saying in one if chance.random() < 0.7]
    sayings += [some_saying(chance, marks) for _ in range(chance.choice((0, 0, 1)))]
    sayings = [Saying(s.where, s.confirm | ~s.where & chance.randint(0, marks.all_days), s.usual) for s in sayings]
    return one, Book(marks, sayings[:12])


class Comparing(Case):
    def compared(self, one, two):
        found = compare_books(one, two)
        self.assertIsNone(compare_fault(one, two, found))
        for answers, book, sayings in ((found.first, one, two), (found.second, two, one)):
            self.assertIs(type(answers), tuple)
            self.assertEqual(len(answers), len(sayings))
            for saying, answer in zip(sayings, answers):
                self.assertIsNone(tell_fault(book, saying, answer))
        return found

    def test_8_2_all_orders(self):
        chance = seeded(82)
        words = set()
        for _ in range(250):
            marks = chance.choice((ONE, TWO, TWO))
            one, two = some_pair(chance, marks, 4)
            found = self.compared(one, two)
            self.assertEqual([isinstance(answer, Told) for answer in found.first],
                             [plain_tells(one, saying) for saying in two])
            self.assertEqual([isinstance(answer, Told) for answer in found.second],
                             [plain_tells(two, saying) for saying in one])
            first, second = set(keeping(one)), set(keeping(two))
            # A book that tells all of the other one is kept by no order that does not keep the other one.
            word = "first" if first < second else "second" if second < first else "neither"
            word = "alike" if first == second else word
            words.add(word)
            self.assertEqual(found.verdict, word)
        self.assertEqual(words, {"alike", "first", "second", "neither"})

    def test_8_1_alike_books_tell_the_same(self):
        chance = seeded(81)
        sayings = all_sayings(TWO)
        alike = 0
        for _ in range(60):
            one, two = some_pair(chance, TWO, 3)
            same = compare_books(one, two).verdict == "alike"
            alike += same
            orders = keeping(one), keeping(two)
            self.assertEqual(same, orders[0] == orders[1])
            told = [[all(plain_keeps(layers, saying) for layers in own) for saying in sayings] for own in orders]
            self.assertEqual(same, told[0] == told[1])
        self.assertLess(10, alike)

    def test_8_2_more_marks_by_the_judge(self):
        chance = seeded(821)
        words = set()
        for marks in (THREE, FOUR):
            for _ in range(60):
                words.add(self.compared(*some_pair(chance, marks, 12)).verdict)
        self.assertEqual(words, {"alike", "first", "second", "neither"})

    def test_8_2_edges(self):
        for one, two, word in ((EMPTY, EMPTY, "alike"), (B, B, "alike"), (B, EMPTY, "first"), (EMPTY, B, "second"),
                               (BROKEN, B, "first"), (B, BROKEN, "second"),
                               (BROKEN, Book(TWO, [Saying(1, 0)]), "alike"),
                               (B, Book(TWO, [Saying(3, 2)]), "neither"), (Book(TWO, [Saying(6, 6)]), EMPTY, "alike"),
                               (Book(TWO, [Saying(10, 12)] * 12), Book(TWO, [Saying(10, 8)]), "alike")):
            self.assertEqual(self.compared(one, two).verdict, word)
        found = compare_books(B, BROKEN)
        self.assertIsInstance(found.first[0], NotTold)
        self.assertTrue(all(isinstance(answer.stuck, Stuck) for answer in found.second))

    def test_8_2_verdict(self):
        for first, second, word in (((), (), "alike"), ((TOLD,), (), "alike"), ((TOLD, TOLD), (TOLD,), "alike"),
                                    ((), (NOT_TOLD,), "first"), ((TOLD,), (TOLD, NOT_TOLD), "first"),
                                    ((NOT_TOLD,), (), "second"), ((TOLD, NOT_TOLD), (TOLD,), "second"),
                                    ((NOT_TOLD,), (NOT_TOLD,), "neither"),
                                    ((NOT_TOLD, TOLD), (TOLD, NOT_TOLD), "neither")):
            self.assertEqual(Compared(first, second).verdict, word)

    def test_8_2_other_marks(self):
        for other in (Book(ONE, []), Book(FOUR, []), Book(Marks(("b", "a")), []), Book(Marks(("a", "c")), [])):
            self.refuses(OtherDays(), compare_books, EMPTY, other)
            self.refuses(OtherDays(), compare_books, other, B)
            self.refuses(OtherDays(), compare_fault, EMPTY, other, Compared((), ()))
            self.refuses(OtherDays(), compare_fault, other, B, Compared((), ()))

    def test_0_6_results_keep_their_arguments(self):
        first, second = (TOLD,), (NOT_TOLD, TOLD)
        self.assertEqual(vars(Compared(first, second)), {"first": first, "second": second})


class Judging(Case):
    def test_8_3_each_word(self):
        one, two = Book(TWO, [Saying(15, 5), Saying(10, 12)]), Book(TWO, [Saying(15, 13)])
        found = compare_books(one, two)
        first, second = found.first, found.second
        self.assertEqual([type(answer) for answer in first + second], [Told, NotTold, NotTold])

        def judged(word, *answers):
            self.assertEqual(compare_fault(one, two, Compared(*answers)), word)

        judged(None, first, second)
        judged(None, first, (NotTold(Order((0, 1, 0, 0))), second[1]))
        for answers in (((), second), (first * 2, second), (first, ()), (first, second[:1]), (first, second * 2),
                        (second, first),
                        ((None,) * 2, (None,) * 2)):
            judged("count", *answers)
        for answer in (None, tell(two, two[0]), NotTold(Order.flat(4)), NotTold(Order([0, 1])), second[0]):
            judged("first", (answer,), second)
            judged("first", (answer,), (None, None))
        for answer in (None, first[0], tell(one, one[0]), NotTold(Order((0, 2, 0, 1))), NotTold(Order.flat(8))):
            judged("second", first, (answer, second[1]))
        judged("second", first, (second[0], None))

    def test_8_3_some_answers_wrong(self):
        chance = seeded(83)
        words = set()
        for _ in range(500):
            one, two = some_pair(chance, TWO, 4)
            found = compare_books(one, two)
            first, second = list(found.first), list(found.second)
            for answers in (first, second):
                if answers and chance.random() < 0.3:
                    other = chance.choice(first + second + [None])
                    answers[chance.randrange(len(answers))] = other
            wrong = [tell_fault(one, saying, answer) for saying, answer in zip(two, first)]
            wrong_too = [tell_fault(two, saying, answer) for saying, answer in zip(one, second)]
            word = "first" if any(wrong) else "second" if any(wrong_too) else None
            words.add(word)
            self.assertEqual(compare_fault(one, two, Compared(tuple(first), tuple(second))), word)
        self.assertEqual(words, {"first", "second", None})
