"""Benches as texts: point 10.15."""

from tests.helpers import FOUR, ONE, STRANGE, TWO, Case, seeded, some_book, some_saying
from tests.test_bench import shown
from tests.test_strife import Q
from usualdays.bench import Bench
from usualdays.benchtext import bench_text, read_bench
from usualdays.books import Book
from usualdays.booktext import book_text, read_book, saying_text
from usualdays.errors import BadBook, BadRow, NoSaying, NothingDone, NoWithdrawal, TooMany
from usualdays.lifting import Stuck, lift
from usualdays.sayings import Saying
from usualdays.strife import strife

BOOK = "marks a b\nwhere a usually b\nwhere a usually not b"
NINE = "marks a\n" + "\n".join(["where any usually a"] * 9)


def some_bench(chance, marks):
    bench = Bench(some_book(chance, marks, 5))
    for _ in range(chance.randint(0, 12)):
        kind = chance.choice(("put", "put", "take", "mend", "undo"))
        if kind == "put" and len(bench) < 12:
            bench.put(some_saying(chance, marks))
        elif kind == "take" and len(bench):
            bench.take(chance.choice([number for number, _ in bench]))
        elif kind == "mend" and len(bench) <= 8:
            bench.mend(chance.randrange(len(bench.withdrawal_lots())))
        elif kind == "undo" and bench.deeds:
            bench.undo()
    return bench


class BenchText(Case):
    def test_10_15_read_back(self):
        chance = seeded(1015)
        deeds = 0
        for _ in range(120):
            bench = some_bench(chance, chance.choice((ONE, TWO, FOUR)))
            text = bench_text(bench)
            again = read_bench(text)
            self.assertEqual(again.first, bench.first)
            self.assertEqual(shown(again), shown(bench))
            self.assertEqual(bench_text(again), text)
            self.refuses(NothingDone(), again.redo)
            deeds += len(again.deeds)
            while bench.deeds:
                self.assertEqual(again.undo(), bench.undo())
                self.assertEqual(shown(again), shown(bench))
            self.refuses(NothingDone(), again.undo)
            number = again.put(Saying(3, 1)) if len(again) < 12 else None
            self.assertEqual(number, bench.put(Saying(3, 1)) if len(bench) < 12 else None)
        self.assertLess(300, deeds)

    def test_10_15_rows(self):
        bench = Bench(Q)
        self.assertEqual(bench_text(bench), book_text(Q))
        bench.put(Saying(6, 4))
        bench.mend(1)
        bench.put(Saying(3, 1, False))
        bench.take(2)
        bench.put(Saying(3, 3))
        bench.undo()
        self.assertEqual(bench_text(bench), "\n".join([
            book_text(Q), "put " + saying_text(TWO, Saying(6, 4)), "mend 1",
            "put " + saying_text(TWO, Saying(3, 1, False)), "take 2"]))
        empty = Bench(Book(ONE, []))
        self.assertEqual(bench_text(empty), "marks a")
        empty.mend(0)
        self.assertEqual(bench_text(empty), "marks a\nmend 0")

    def test_10_15_read(self):
        bench = read_bench(BOOK + "\nput where any usually a or b\ntake 0\nmend 0\nput where b need not a\ntake 3")
        self.assertEqual(bench.first, read_book(BOOK))
        self.assertEqual([number for number, _ in bench], [1, 2])
        self.assertEqual(bench.now, Book(TWO, [Saying(10, 3), Saying(15, 14)]))
        self.assertEqual([deed[:2] for deed in bench.deeds],
                         [("put", 2), ("take", 0), ("mend", 0), ("put", 3), ("take", 3)])
        self.assertEqual(bench.deeds[2][2], ())
        self.assertEqual(read_bench(BOOK + "\nmend 1").deeds, (("mend", 1, (1,)),))
        many = read_bench("marks a" + "".join(f"\nput where any usually a\ntake {number}" for number in range(90)))
        self.assertEqual((len(many), len(many.deeds), many.put(Saying(3, 2))), (0, 180, 90))

    def test_10_15_text(self):
        for thing in (*[thing for thing in STRANGE if not isinstance(thing, str)], b"marks a", Bench(Q)):
            self.refuses(BadRow(0, "text"), read_bench, thing)

    def test_10_15_the_errors_of_the_book_come_first(self):
        for text, row, what in (("", 1, "marks"), ("put where any usually a", 1, "marks"), ("take 0", 1, "marks"),
                                ("mend", 1, "marks"), ("marks  a\ntake x", 1, "marks"),
                                ("marks a\nwhere any\nfoo\ntake", 2, "kind"), ("marks a\n\nput", 2, "where"),
                                ("marks a\nputs", 2, "where"), ("marks a\ntake\t0", 2, "where"),
                                ("marks a\n put where any usually a", 2, "where"), ("marks a\nPut x", 2, "where"),
                                ("marks a\n" + "\n".join(["where any usually a"] * 13) + "\ntake 99", 14, "count")):
            self.refuses(BadRow(row, what), read_bench, text)

    def test_10_15_deed(self):
        for last in ("", "where a usually b", "puts", "Put x", " take 0", "takes 0", "marks a", "take\t0", "undo"):
            self.refuses(BadRow(5, "deed"), read_bench, BOOK + "\ntake 0\n" + last)
            self.refuses(BadRow(5, "deed"), read_bench, BOOK + "\ntake 0\n" + last + "\ntake 99\nfoo")
        self.refuses(NoSaying(9), read_bench, BOOK + "\ntake 9\nfoo")
        self.refuses(BadRow(4, "deed"), read_bench, "marks a\nwhere any usually a\nmend 0\nwhere any usually a")

    def test_10_15_put(self):
        for rest, what in (("", "where"), (" ", "where"), ("  where any usually a", "where"), (" where any", "kind"),
                           (" wher any usually a", "where"), (" where c usually a", "condition"),
                           (" where never usually a", "never"), (" where any usually c", "conclusion"),
                           (" where any usually a ", None), (" where  any usually a", None)):
            if what is None:
                self.assertEqual(len(read_bench(BOOK + "\nput" + rest)), 3)
            else:
                self.refuses(BadRow(4, what), read_bench, BOOK + "\nput" + rest)
                self.refuses(BadRow(6, what), read_bench, BOOK + "\ntake 1\nmend 0\nput" + rest + "\nfoo")
        self.refuses(BadBook("count", None), read_bench, "marks a" + "\nput where any usually a" * 13)

    def test_10_15_number(self):
        wrong = ("", " ", "  0", " 0 ", " 00", " 01", " 0001", " 12345", " 00000", " -1", " +1", " a", " 1a", " 1 0",
                 " 1_0", "\t0", " 1.0", " \t0", " 0\t")
        for word in ("take", "mend"):
            for rest in wrong:
                if rest[:1] in ("", " "):
                    self.refuses(BadRow(4, "number"), read_bench, BOOK + "\n" + word + rest)
                    self.refuses(BadRow(5, "number"), read_bench, BOOK + "\nmend 0\n" + word + rest + "\nput")
                else:
                    self.refuses(BadRow(5, "deed"), read_bench, BOOK + "\nmend 0\n" + word + rest)
        # What fits is not refused here, but by the deed.
        for number in (2, 10, 999, 1000, 9999):
            self.refuses(NoSaying(number), read_bench, f"{BOOK}\ntake {number}")
            self.refuses(NoWithdrawal(number), read_bench, f"{BOOK}\nmend {number}")

    def test_10_15_the_errors_of_the_deeds(self):
        self.refuses(NoSaying(0), read_bench, BOOK + "\ntake 0\ntake 0")
        self.refuses(NoSaying(1), read_bench, BOOK + "\nmend 1\ntake 1")
        self.refuses(NoWithdrawal(1), read_bench, BOOK + "\nmend 1\nmend 1")
        self.refuses(TooMany(9), read_bench, NINE + "\nmend 0")
        self.refuses(TooMany(9), read_bench, NINE + "\nmend 7")
        self.assertEqual(len(read_bench(NINE + "\ntake 8\nmend 0")), 8)
        self.refuses(BadBook("count", None), read_bench, NINE + "\nput where any usually a" * 4 + "\nfoo")

    def test_0_3_what_is_read_back_gives_the_same_answers(self):
        chance = seeded(10151)
        stuck = 0
        for _ in range(30):
            bench = some_bench(chance, TWO)
            again = read_bench(bench_text(bench))
            one, other = lift(bench.now), lift(again.now)
            self.assertIs(type(one), type(other))
            self.assertEqual((one.reasons, one.grounds), (other.reasons, other.grounds))
            stuck += isinstance(one, Stuck)
            if len(bench) <= 8:
                self.assertEqual(bench.quarrel_lots(), again.quarrel_lots())
                self.assertEqual([lot for lot, _ in strife(bench.now).withdrawals],
                                 [lot for lot, _ in strife(again.now).withdrawals])
        self.assertLess(3, stuck)
