"""Two watchers: points 9.3 and 9.4."""

from tests.helpers import (FOUR, ONE, STRANGE, THREE, TWO, Case, all_sayings, keeping, plain_keeps, seeded, some_book,
                           some_kept_book, some_saying)
from usualdays.books import Book
from usualdays.errors import BadWatchers, NoSaying, OtherDays
from usualdays.lifting import Stuck, lift
from usualdays.looks import widened_book
from usualdays.marks import Marks
from usualdays.sayings import Saying
from usualdays.told import tells
from usualdays.watchers import Watchers, standing_of


def some_marks(chance, names, most):
    return Marks(chance.sample(names, chance.randint(1, min(most, len(names)))))


def some_watchers(chance, names="abcd", most=4, sayings=5, kept=0.7):
    """Two watchers whose marks are among these names; most of their own books have orders."""
    books = []
    for _ in range(2):
        marks = some_marks(chance, names, most)
        books.append(some_kept_book(chance, marks, chance.randint(0, sayings)) if chance.random() < kept
                     else some_book(chance, marks, sayings))
    return Watchers(*books)


class TwoWatchers(Case):
    def test_9_3_attributes(self):
        chance = seeded(93)
        shared = set()
        for _ in range(200):
            one, other = (some_book(chance, some_marks(chance, "abcd", 4), 6) for _ in range(2))
            both = Watchers(one, other)
            self.assertEqual((both.one, both.other), (one, other))
            mine, yours = one.marks.names, other.marks.names
            self.assertEqual(both.marks, Marks(mine + tuple(name for name in yours if name not in mine)))
            self.assertEqual(both.shared, tuple(name for name in mine if name in yours))
            self.assertEqual(both.wide_one, widened_book(one, both.marks))
            self.assertEqual(both.wide_other, widened_book(other, both.marks))
            self.assertEqual(both.together, both.wide_one + both.wide_other)
            self.assertEqual([both.owner(number) for number in range(len(both.together))],
                             ["one"] * len(one) + ["other"] * len(other))
            shared.add((len(both.shared), both.shared == mine == yours))
        self.assertEqual(len(shared), 8)

    def test_9_3_examples(self):
        both = Watchers(Book(Marks(("c", "a")), [Saying(15, 5)]), Book(TWO, [Saying(10, 12, False)] * 2))
        self.assertEqual((both.marks, both.shared), (Marks(("c", "a", "b")), ("a",)))
        self.assertEqual(both.together, Book(both.marks, [Saying(255, 85), *[Saying(204, 240, False)] * 2]))
        empty = Watchers(Book(ONE, []), Book(Marks(("b",)), []))
        self.assertEqual((empty.shared, empty.marks, len(empty.together)), ((), TWO, 0))
        turned = Watchers(Book(TWO, []), Book(Marks(("b", "a")), [Saying(2, 2)]))
        self.assertEqual((turned.shared, turned.marks, turned.wide_other[0]), (("a", "b"), TWO, Saying(4, 4)))

    def test_9_3_errors(self):
        book, four = Book(ONE, [Saying(1, 1)] * 7), Book(FOUR, [])
        fifth, six = Book(Marks(("e",)), []), Book(ONE, [Saying(1, 1)] * 6)
        for thing in (*STRANGE, ONE, [Saying(1, 1)], Order):
            self.refuses(BadWatchers("one"), Watchers, thing, book)
            self.refuses(BadWatchers("one"), Watchers, thing, thing)
            self.refuses(BadWatchers("other"), Watchers, book, thing)
        self.refuses(BadWatchers("marks"), Watchers, four, fifth)
        self.refuses(BadWatchers("marks"), Watchers, fifth, four)
        self.refuses(BadWatchers("marks"), Watchers, Book(THREE, []), Book(Marks(("x", "a", "y")), []))
        self.refuses(BadWatchers("marks"), Watchers, Book(FOUR, [Saying(1, 1)] * 12),
                     Book(Marks(("e",)), [Saying(1, 1)]))
        self.refuses(BadWatchers("many"), Watchers, book, six)
        self.refuses(BadWatchers("many"), Watchers, six, book)
        self.refuses(BadWatchers("many"), Watchers, Book(FOUR, [Saying(1, 1)]), Book(FOUR, [Saying(1, 1)] * 12))
        self.assertEqual(len(Watchers(six, six).together), 12)
        self.assertEqual(len(Watchers(Book(FOUR, [Saying(1, 1)] * 12), fifth_of_four()).together), 12)

    def test_9_3_owner(self):
        both = Watchers(Book(ONE, [Saying(1, 1)]), Book(TWO, [Saying(1, 1)]))
        self.assertEqual([both.owner(0), both.owner(1)], ["one", "other"])
        for number in (2, 3, 100, "one", *STRANGE):
            self.refuses(NoSaying(number), both.owner, number)
        for number in (0, 1):
            self.refuses(NoSaying(number), Watchers(Book(ONE, []), Book(ONE, [])).owner, number)

    def test_0_5_lists_that_were_passed_in(self):
        names, sayings = ["a"], [Saying(3, 1)]
        both = Watchers(Book(Marks(names), sayings), Book(ONE, []))
        names.append("b")
        sayings.clear()
        self.assertEqual((both.shared, len(both.together)), (("a",), 1))


def fifth_of_four():
    return Book(Marks(("d", "b")), [])


class Order:
    """Something that is no book, although it has marks and can be counted."""


class Standing(Case):
    def test_9_4_all_orders(self):
        chance = seeded(94)
        words = {}
        for _ in range(120):
            both = some_watchers(chance, "ab", 2, 3, 0.9)
            kept = [keeping(book) for book in (both.wide_one, both.wide_other, both.together)]
            for saying in [some_saying(chance, both.marks) for _ in range(12)]:
                told = [all(plain_keeps(layers, saying) for layers in orders) for orders in kept]
                word = ("both" if told[0] and told[1] else "one" if told[0] else "other" if told[1]
                        else "together" if told[2] else "none")
                words[word] = words.get(word, 0) + 1
                self.assertEqual(standing_of(both, saying), word)
        self.assertEqual(set(words), {"both", "one", "other", "together", "none"})

    def test_9_4_more_marks(self):
        chance = seeded(941)
        words = set()
        for _ in range(150):
            both = some_watchers(chance)
            saying = some_saying(chance, both.marks)
            told = tuple(tells(book, saying) for book in (both.wide_one, both.wide_other, both.together))
            word = standing_of(both, saying)
            words.add(word)
            self.assertEqual(told, {"both": (True,) * 3, "one": (True, False, True), "other": (False, True, True),
                                    "together": (False, False, True), "none": (False,) * 3}[word])
        self.assertEqual(words, {"both", "one", "other", "together", "none"})

    def test_9_4_edges(self):
        impossible = Book(ONE, [Saying(1, 0)])
        both = Watchers(impossible, Book(Marks(("b",)), [Saying(3, 1)]))
        for saying in all_sayings(TWO):
            word = standing_of(both, saying)
            self.assertEqual(word, "both" if tells(both.wide_other, saying) else "one")
        clash = Watchers(Book(ONE, [Saying(3, 1)]), Book(ONE, [Saying(3, 2)]))
        self.assertIsInstance(lift(clash.together), Stuck)
        self.assertEqual([standing_of(clash, saying) for saying in (Saying(3, 1), Saying(3, 2), Saying(1, 0),
                                                                    Saying(1, 1))],
                         ["one", "other", "together", "both"])
        self.assertEqual(keeping(clash.together), [])

    def test_9_4_other_days(self):
        both = Watchers(Book(ONE, [Saying(1, 0)]), Book(Marks(("b",)), []))
        for saying in (Saying(16, 1), Saying(1, 16), Saying(65535, 0, False)):
            self.refuses(OtherDays(), standing_of, both, saying)
        for saying in (Saying(4, 0), Saying(1, 12)):
            # Days of both together that the one or the other does not have are no fault.
            self.assertIn(standing_of(both, saying), ("one", "both"))
