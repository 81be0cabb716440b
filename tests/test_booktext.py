"""Sayings and books as texts: points 2.9 and 2.10."""

from tests.helpers import FOUR, ONE, THREE, TWO, Case, all_sayings, seeded, some_book, some_saying
from usualdays.books import Book
from usualdays.booktext import book_text, read_book, read_saying, saying_text
from usualdays.errors import BadRow, OtherDays
from usualdays.marks import Marks
from usualdays.sayings import Saying

LONG = Marks(("abcdefgh", "bcdefghi", "cdefghij", "defghijk"))


class SayingTexts(Case):
    def test_2_9_reads_back(self):
        for saying in all_sayings(TWO) + [Saying(3, 12), Saying(15, 15, False), Saying(1, 14)]:
            self.assertEqual(read_saying(TWO, saying_text(TWO, saying)), saying)
        chance = seeded(29)
        for _ in range(500):
            for marks in (ONE, THREE, FOUR, LONG):
                saying = some_saying(chance, marks)
                self.assertEqual(read_saying(marks, saying_text(marks, saying), 7), saying)

    def test_2_9_form(self):
        text = saying_text(TWO, Saying(10, 12))
        self.assertTrue(text.startswith("where "))
        self.assertEqual(text.count(" usually "), 1)
        self.assertIn(" need not ", saying_text(TWO, Saying(10, 12, False)))

    def test_2_9_other_days(self):
        for saying in (Saying(16, 1), Saying(1, 16), Saying(65535, 0), Saying(31, 1, False)):
            self.refuses(OtherDays(), saying_text, TWO, saying)
        self.refuses(OtherDays(), saying_text, ONE, Saying(4, 1))

    def test_2_9_reading(self):
        for text, wanted in (
                ("where a usually b", Saying(10, 12)), ("where a need not b", Saying(10, 12, False)),
                ("where   a   usually   b  ", Saying(10, 12)), ("where any usually not a or b", Saying(15, 13)),
                ("where a usually never", Saying(10, 0)), ("where not (a and b) need not any", Saying(7, 15, False))):
            self.assertEqual(read_saying(TWO, text), wanted, text)


class SayingFaults(Case):
    def refused(self, what, text):
        self.refuses(BadRow(1, what), read_saying, TWO, text)
        self.refuses(BadRow(5, what), read_saying, TWO, text, 5)
        self.refuses(BadRow(9, what), read_saying, TWO, text, row=9)

    def test_2_9_text(self):
        for thing in (None, True, 0, b"where a usually b", ["where a usually b"], Saying(1, 1)):
            self.refused("text", thing)

    def test_2_9_where(self):
        for text in ("", "where", "wherea usually b", " where a usually b", "a usually b", "Where a usually b",
                     "where\ta usually b", "marks a b"):
            self.refused("where", text)

    def test_2_9_kind(self):
        for text in ("where ", "where usually b", "where a", "where a usually", "where a need not", "where need not b",
                     "where a need  not b", "where a usuallyb", "where ausually b", "where a need b", "where (%"):
            self.refused("kind", text)

    def test_2_9_condition(self):
        for text in ("where  usually b", "where  need not b", "where a b usually b", "where c usually b",
                     "where a and usually b", "where a and c need not b usually a", "where A usually b",
                     "where x or a usually y", "where (a)usually b usually b", "where need not b usually a and"):
            self.refused("condition", text)

    def test_2_9_never(self):
        for text in ("where never usually b", "where a and not a need not b", "where never usually c",
                     "where not any usually (", "where never usually "):
            self.refused("never", text)

    def test_2_9_conclusion(self):
        for text in ("where a usually ", "where a need not ", "where a usually c", "where a usually b usually a",
                     "where a need not b need not a", "where a usually b need not a", "where a need not b usually a",
                     "where a usually usually b", "where a usually b and", "where a need not  "):
            self.refused("conclusion", text)

    def test_2_9_the_kind_that_begins_first(self):
        self.refused("condition", "where c usually a need not b")
        self.refused("condition", "where c need not a usually b")
        self.assertEqual(read_saying(TWO, "where a usually b").usual, True)

    def test_2_9_long_and_deep_sentences(self):
        self.refused("condition", "where " + "not " * 13 + "a usually b")
        self.refused("conclusion", "where a usually b" + " " * 1200)
        self.assertEqual(read_saying(TWO, "where a usually b" + " " * 1199), Saying(10, 12))


class BookTexts(Case):
    def test_2_10_reads_back(self):
        chance = seeded(210)
        for marks in (ONE, TWO, THREE, FOUR, LONG):
            self.assertEqual(read_book(book_text(Book(marks, []))), Book(marks, []))
            for _ in range(40):
                book = some_book(chance, marks, 12)
                self.assertEqual(read_book(book_text(book)), book)
        full = Book(TWO, [Saying(10, 12)] * 12)
        self.assertEqual(read_book(book_text(full)), full)

    def test_2_10_form(self):
        text = book_text(Book(TWO, [Saying(10, 12), Saying(15, 1, False)]))
        rows = text.split("\n")
        self.assertEqual((len(rows), rows[0]), (3, "marks a b"))
        self.assertEqual(book_text(Book(Marks(("rain", "wind")), [])), "marks rain wind")

    def test_2_10_text(self):
        for thing in (None, True, 0, b"marks a", ["marks a"], ("marks a",)):
            self.refuses(BadRow(0, "text"), read_book, thing)

    def test_2_10_marks(self):
        for first in ("", "marks", "marks ", "marksa", "marks  a", "marks a  b", "marks a ", " marks a", "marks a b c d e",
                      "marks a a", "marks and", "marks A", "marks abcdefghi", "mark a", "where a usually a", "marks a\tb",
                      "Marks a b", "where a b", "marks.a b", "mark  a"):
            self.refuses(BadRow(1, "marks"), read_book, first)
            self.refuses(BadRow(1, "marks"), read_book, first + "\nx" * 14)

    def test_2_10_count(self):
        row = "\nwhere a usually b"
        self.assertEqual(len(read_book("marks a b" + row * 12)), 12)
        self.refuses(BadRow(14, "count"), read_book, "marks a b" + row * 13)
        self.refuses(BadRow(14, "count"), read_book, "marks a b" + "\n" * 13)
        self.refuses(BadRow(14, "count"), read_book, "marks a b" + row * 1000)

    def test_2_10_rows(self):
        first = "marks a b\nwhere a usually b"
        for row, what in (("", "where"), ("where a", "kind"), ("where c usually b", "condition"),
                          ("where never usually b", "never"), ("where a usually c", "conclusion")):
            self.refuses(BadRow(3, what), read_book, first + "\n" + row)
            self.refuses(BadRow(2, what), read_book, "marks a b\n" + row + "\nwhere")
        self.refuses(BadRow(13, "where"), read_book, "marks a b" + "\nwhere a usually b" * 11 + "\n")
        self.refuses(BadRow(2, "where"), read_book, "marks a b\n")
        self.refuses(BadRow(2, "where"), read_book, "marks a b\n\nwhere a usually b")

    def test_examples_of_part_2(self):
        s = read_saying(TWO, "where a usually b")
        self.assertEqual((s.where, s.then, s.confirm, s.broken, s.low, s.high, s.step), (10, 12, 8, 2, 8, 2, 1))
        K = read_book("marks a b\nwhere a usually b\nwhere any need not a and not b")
        self.assertEqual((len(K), K[1].where, K[1].then, K.first_need_not), (2, 15, 2, 1))
        self.refuses(BadRow(3, "where"), read_book, "marks a b\nwhere a usually b\n")
