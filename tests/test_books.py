"""Books: points 2.7 and 2.8."""

from tests.helpers import FOUR, ONE, STRANGE, THREE, TWO, Case, seeded, some_book
from usualdays.books import Book
from usualdays.errors import BadBook, BadLot, NoSaying, OtherDays
from usualdays.marks import Marks
from usualdays.sayings import Saying

S = [Saying(10, 12), Saying(15, 5), Saying(12, 5, False), Saying(10, 12)]


class Making(Case):
    def test_2_7_attributes(self):
        for sayings in ([], S, tuple(S), [S[0]] * 12):
            book = Book(TWO, sayings)
            self.assertEqual(book.marks, TWO)
            self.assertIs(type(book.sayings), tuple)
            self.assertEqual(book.sayings, tuple(sayings))
            self.assertEqual(len(book), len(sayings))
            self.assertEqual(list(book), list(sayings))

    def test_2_7_marks(self):
        for thing in (("a", "b"), "ab", None, True, 2, S[0]):
            self.refuses(BadBook("marks", None), Book, thing, None)

    def test_2_7_count(self):
        for thing in (None, "", "ab", True, 0, S[0], {0: S[0]}, Book(TWO, S), [S[0]] * 13, (None,) * 13):
            self.refuses(BadBook("count", None), Book, TWO, thing)

    def test_2_7_saying(self):
        for thing in (None, True, 1, "where a usually b", (10, 12), [S[0]]):
            self.refuses(BadBook("saying", 0), Book, TWO, [thing])
            self.refuses(BadBook("saying", 2), Book, TWO, (S[0], S[1], thing, thing))

    def test_2_7_days(self):
        self.refuses(BadBook("days", 1), Book, TWO, [S[0], Saying(16, 1)])
        self.refuses(BadBook("days", 0), Book, TWO, [Saying(1, 16)])
        self.refuses(BadBook("days", 0), Book, ONE, [Saying(4, 0)])
        self.assertEqual(len(Book(FOUR, [Saying(65535, 65535)])), 1)
        self.assertEqual(len(Book(ONE, [Saying(3, 3)])), 1)

    def test_0_7_the_first_fault_of_the_first_wrong_saying(self):
        self.refuses(BadBook("days", 0), Book, TWO, [Saying(16, 1), None])
        self.refuses(BadBook("saying", 0), Book, TWO, [None, Saying(16, 1)])

    def test_0_5_a_later_change_has_no_effect(self):
        sayings = list(S)
        book = Book(TWO, sayings)
        sayings.pop()
        sayings[0] = Saying(1, 1)
        self.assertEqual(book.sayings, tuple(S))

    def test_0_5_equality(self):
        self.assertTrue(Book(TWO, S) == Book(Marks(["a", "b"]), tuple(S)))
        self.assertFalse(Book(TWO, S) != Book(TWO, S))
        self.assertTrue(Book(TWO, []) == Book(TWO, ()))
        self.differs(Book(TWO, S), Book(TWO, S[:3]), Book(TWO, S[::-1]), Book(THREE, S), Book(Marks(("b", "a")), S),
                     tuple(S), list(S), None)
        self.differs(Book(TWO, [S[0]]), Book(TWO, [S[0], S[0]]), S[0])

    def test_2_7_items(self):
        book = Book(TWO, S)
        self.assertEqual([book[number] for number in range(4)], S)
        for thing in STRANGE + (4, slice(0, 2)):
            self.refuses(NoSaying(thing), lambda: book[thing])
        self.refuses(NoSaying(0), lambda: Book(TWO, [])[0])

    def test_2_7_first_need_not(self):
        self.assertEqual(Book(TWO, S).first_need_not, 2)
        self.assertEqual(Book(TWO, [S[2], S[2]]).first_need_not, 0)
        self.assertIsNone(Book(TWO, []).first_need_not)
        self.assertIsNone(Book(TWO, S[:2]).first_need_not)


class Others(Case):
    def test_2_8_with_saying(self):
        book = Book(TWO, S)
        longer = book.with_saying(S[1])
        self.assertEqual(longer, Book(TWO, S + [S[1]]))
        self.assertEqual(len(book), 4)
        self.refuses(BadBook("saying", 4), book.with_saying, None)
        self.refuses(BadBook("days", 4), book.with_saying, Saying(1, 16))
        self.refuses(BadBook("count", None), Book(TWO, [S[0]] * 12).with_saying, S[0])
        self.refuses(BadBook("count", None), Book(TWO, [S[0]] * 12).with_saying, None)
        self.assertEqual(Book(TWO, []).with_saying(S[0]), Book(TWO, [S[0]]))

    def test_2_8_only_and_without(self):
        book = Book(TWO, S)
        self.assertEqual(book.only([0, 2]), Book(TWO, [S[0], S[2]]))
        self.assertEqual(book.without((0, 2)), Book(TWO, [S[1], S[3]]))
        self.assertEqual((book.only(()), book.without([])), (Book(TWO, []), book))
        self.assertEqual((book.only((0, 1, 2, 3)), book.without((0, 1, 2, 3))), (book, Book(TWO, [])))
        self.assertEqual(book.only([3]), Book(TWO, [S[3]]))

    def test_2_8_bad_lots(self):
        book = Book(TWO, S)
        wrong = [(1, 0), [0, 0], (4,), [-1], (0, True), [False], (None,), ["0"], None, True, 0, 1, "", "0", {}, {0: 0},
                 range(2), (0, 1, 2, 3, 4), ((0,),), Book(TWO, [])]
        for thing in wrong:
            self.refuses(BadLot(), book.only, thing)
            self.refuses(BadLot(), book.without, thing)
        self.refuses(BadLot(), Book(TWO, []).only, [0])

    def test_2_8_sum(self):
        one, other = Book(TWO, S[:2]), Book(TWO, S[2:])
        self.assertEqual(one + other, Book(TWO, S))
        self.assertEqual(other + one, Book(TWO, S[2:] + S[:2]))
        self.assertEqual(one + Book(TWO, []), one)
        six = Book(TWO, [S[0]] * 6)
        self.assertEqual(len(six + six), 12)
        self.refuses(BadBook("count", None), lambda: six + six.with_saying(S[1]))
        self.refuses(OtherDays(), lambda: one + Book(THREE, []))
        self.refuses(OtherDays(), lambda: one + Book(Marks(("b", "a")), []))
        self.refuses(OtherDays(), lambda: Book(TWO, [S[0]] * 12) + Book(ONE, [Saying(1, 1)] * 12))

    def test_0_5_everything_returned_is_a_right_book(self):
        chance = seeded(28)
        for _ in range(50):
            book = some_book(chance, THREE, 12)
            lot = [number for number in range(len(book)) if chance.random() < 0.5]
            rest = [number for number in range(len(book)) if number not in lot]
            self.assertEqual(book.only(lot), book.without(rest))
            self.assertEqual(len(book.only(lot) + book.without(lot)), len(book))
