"""Trimming: points 8.8 and 8.9."""

from tests.helpers import (FOUR, ONE, THREE, TWO, Case, all_sayings, bits, keeping, plain_tells, seeded, some_kept_book)
from tests.test_thin import EXAMPLE, drawn_book
from usualdays.books import Book
from usualdays.lifting import Stuck, lift
from usualdays.marks import Marks
from usualdays.sayings import Saying
from usualdays.trim import Trimmed, trim, trim_fault


def made(low, high, usual):
    return Saying.of_days(low, high) if usual else Saying.of_days(high, low, False)


def plain_trim(book):
    """The triples (low, high, number), by the words of point 8.8 and all orders."""
    parts = [[saying.low, saying.high, saying.usual] for saying in book]

    def rest():
        return Book(book.marks, [made(*part) for part in parts if part[1]])

    dropped = True
    while dropped:
        dropped = False
        for part in parts:
            for day in bits(part[0]) if part[1] else ():
                if plain_tells(book, made(part[0] - 2 ** day, part[1], part[2])):
                    part[0] -= 2 ** day
                    dropped = True
        for part in parts:
            for day in bits(part[1]):
                part[1] -= 2 ** day
                if plain_tells(rest(), made(part[0], 2 ** day, part[2])):
                    dropped = True
                else:
                    part[1] += 2 ** day
    return [(part[0], part[1], number) for number, part in enumerate(parts) if part[1]]


def shown(trimmed):
    return [(saying.low, saying.high, number) for saying, number in zip(trimmed.book, trimmed.numbers)]


class Trim(Case):
    def trimmed(self, book):
        found = trim(book)
        self.assertIsNone(trim_fault(book, found))
        self.assertIs(type(found.numbers), tuple)
        self.assertEqual(found.book.marks, book.marks)
        for saying, number in zip(found.book, found.numbers):
            self.assertEqual(saying, made(saying.low, saying.high, book[number].usual))
        again = trim(found.book)
        self.assertEqual((again.book, again.numbers), (found.book, tuple(range(len(found.book)))))
        if isinstance(lift(book), Stuck):
            [saying] = found.book
            self.assertEqual((saying.low, len(bits(saying.high))), (0, 1))
        return found

    def against_all_orders(self, book):
        found = self.trimmed(book)
        self.assertEqual(shown(found), plain_trim(book))
        self.assertEqual(keeping(found.book), keeping(book))

    def test_8_8_one_mark(self):
        sayings = all_sayings(ONE)
        for one in sayings:
            for other in sayings:
                self.against_all_orders(Book(ONE, [one, other]))
        chance = seeded(88)
        for _ in range(60):
            self.against_all_orders(drawn_book(chance, ONE, 5))

    def test_8_8_two_marks(self):
        chance = seeded(881)
        kept = 0
        for _ in range(150):
            book = drawn_book(chance, TWO, 5)
            kept += keeping(book) != []
            self.against_all_orders(book)
        self.assertLess(60, kept)

    def test_8_8_more_marks(self):
        chance = seeded(882)
        for marks in (THREE, FOUR):
            for _ in range(10):
                self.trimmed(drawn_book(chance, marks, 12))
                self.trimmed(some_kept_book(chance, marks, 6))

    def test_8_8_examples(self):
        self.assertEqual(shown(trim(EXAMPLE)), [(8, 4, 1), (8, 3, 2)])
        self.assertEqual(shown(trim(Book(TWO, [Saying(15, 1)] * 2))), [(1, 14, 1)])

    def test_8_8_edges(self):
        self.assertEqual(shown(trim(Book(TWO, []))), [])
        self.assertEqual(trim(Book(FOUR, [])).book, Book(FOUR, []))
        # Sayings with an empty high drop out; days of then outside where go, too.
        self.assertEqual(shown(trim(Book(TWO, [Saying(6, 6), Saying(6, 0, False)]))), [])
        found = trim(Book(TWO, [Saying(6, 6), Saying(10, 13)]))
        self.assertEqual((found.book, found.numbers), (Book(TWO, [Saying(10, 8)]), (1,)))
        # No order keeps the book: one saying is left, with its greatest high day.
        self.assertEqual(shown(trim(Book(TWO, [Saying(15, 12), Saying(6, 0), Saying(15, 5)]))), [(0, 8, 2)])
        self.assertEqual(shown(trim(Book(TWO, [Saying(6, 0), Saying(6, 6)]))), [(0, 4, 0)])
        self.assertEqual(shown(trim(Book(FOUR, [Saying(65535, 2)] * 12))), [(2, 65533, 11)])

    def test_0_6_results_keep_their_arguments(self):
        book = Book(ONE, [])
        self.assertEqual(vars(Trimmed(book, ())), {"book": book, "numbers": ()})


class Judging(Case):
    def judged(self, word, sayings, numbers, book=EXAMPLE, marks=TWO):
        self.assertEqual(trim_fault(book, Trimmed(Book(marks, sayings), numbers)), word, (sayings, numbers))

    def test_8_9_marks(self):
        sayings = list(trim(EXAMPLE).book)
        self.judged(None, sayings, (1, 2))
        for names in (("b", "a"), ("a", "c"), ("a", "b", "c")):
            self.judged("marks", sayings, (1, 2), marks=Marks(names))
            self.judged("marks", sayings, (1,), marks=Marks(names))
            self.judged("marks", [], (), marks=Marks(names))

    def test_8_9_numbers(self):
        sayings = list(trim(EXAMPLE).book)
        for numbers in ((), (1,), (1, 2, 2), (2, 1), (1, 1), (1, 3), (-1, 2), (True, 2), (1, None), (0, 1, 2), [1, 2]):
            self.judged("numbers", sayings, numbers)
            self.judged("numbers", [Saying(15, 0), Saying(15, 0)], numbers)

    def test_8_9_saying(self):
        one, two = trim(EXAMPLE).book
        for wrong in (made(8, 4, False), made(8, 1 + 4 + 2, True), made(4, 8, True), made(12, 1, True),
                      made(8, 0, True), made(0, 2, True), made(8 + 4, 1, True)):
            self.judged("saying", [wrong, two], (1, 2))
            self.judged("saying", [wrong, wrong], (1, 2))
        self.judged("saying", [one, two], (0, 2))
        self.judged("saying", [one, two], (0, 1))
        book = Book(TWO, [Saying(15, 12, False)])
        self.judged("saying", [made(3, 12, True)], (0,), book)
        self.judged("saying", [made(3, 12, False), made(3, 0, False)], (0, 1), Book(TWO, list(book) * 2))
        self.judged("saying", [made(3, 0, False)], (0,), book)

    def test_8_9_alike(self):
        one, two = trim(EXAMPLE).book
        for sayings, numbers in (([], ()), ([one], (1,)), ([two], (2,)), ([made(8, 2, True)], (0,)),
                                 ([made(8, 4, True), made(8, 1, True)], (1, 2)),
                                 ([made(0, 4, True), made(8, 3, True)], (1, 2))):
            self.judged("alike", sayings, numbers)

    def test_8_9_low(self):
        _, two = trim(EXAMPLE).book
        self.judged("low", list(EXAMPLE), (0, 1, 2))
        self.judged("low", [made(10, 4, True), two], (1, 2))
        self.judged("low", [made(8, 2, True), made(8, 4 + 1, True), made(4 + 8, 1, True)], (0, 1, 2))
        impossible = Book(TWO, [Saying(15, 12), Saying(15, 3)])
        self.judged("low", list(impossible), (0, 1), impossible)

    def test_8_9_high(self):
        self.judged("high", [made(8, 2, True), made(8, 4, True), made(8, 3, True)], (0, 1, 2))
        self.judged("high", [made(8, 5, True), made(8, 3, True)], (1, 2))
        impossible = Book(TWO, [Saying(1, 0), Saying(12, 0)])
        for sayings, numbers in ((list(impossible), (0, 1)), ([Saying(12, 0)], (1,))):
            self.judged("high", sayings, numbers, impossible)
        for sayings, numbers in (([Saying(1, 0)], (0,)), ([Saying(8, 0)], (1,)), ([Saying(4, 0)], (1,))):
            self.judged(None, sayings, numbers, impossible)

    def test_8_9_what_trim_would_not_return(self):
        # Another one of two equal sayings is as right.
        self.judged(None, [Saying(10, 8)], (0,), Book(TWO, [Saying(10, 12)] * 2))
        self.assertEqual(trim(Book(TWO, [Saying(10, 12)] * 2)).numbers, (1,))

    def test_8_9_drawn(self):
        chance = seeded(89)
        words = {}
        for _ in range(400):
            book = drawn_book(chance, TWO, 3)
            found = trim(book)
            sayings, numbers = list(found.book), list(found.numbers)
            for place in range(len(sayings)):
                if chance.random() < 0.3:
                    sayings[place] = book[numbers[place]]
                elif chance.random() < 0.1:
                    own = sayings[place]
                    sayings[place] = made(own.low & chance.randint(0, 15), own.high, own.usual)
            word = self.plain_word(book, sayings, numbers)
            words[word] = words.get(word, 0) + 1
            self.judged(word, sayings, tuple(numbers), book)
        self.assertEqual(set(words), {None, "alike", "low", "high"})

    def plain_word(self, book, sayings, numbers):
        new = Book(book.marks, sayings)
        if any(saying.high == 0 for saying in sayings):
            return "saying"
        if keeping(book) != keeping(new):
            return "alike"
        for saying in sayings:
            for day in bits(saying.low):
                if plain_tells(book, made(saying.low - 2 ** day, saying.high, saying.usual)):
                    return "low"
        for number, saying in enumerate(sayings):
            for day in bits(saying.high):
                rest = [own for place, own in enumerate(sayings) if place != number]
                if saying.high != 2 ** day:
                    rest.append(made(saying.low, saying.high - 2 ** day, saying.usual))
                if plain_tells(Book(book.marks, rest), made(saying.low, 2 ** day, saying.usual)):
                    return "high"
        return None
