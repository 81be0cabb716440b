"""Verdicts: points 2.4, 2.5 and 2.6."""

from tests.helpers import FOUR, STRANGE, TWO, Case, all_sayings, some_saying, seeded
from usualdays.books import Book
from usualdays.errors import BadVerdicts, NoDay
from usualdays.sayings import Saying
from usualdays.verdicts import Verdicts, joined, sharper, verdicts_of

SMALL = [Verdicts(c, b) for c in range(8) for b in range(8) if c & b == 0]


class Making(Case):
    def test_2_4_attributes(self):
        for confirm, broken in ((8, 2), (0, 0), (65535, 0), (0, 65535), (1, 32768)):
            made = Verdicts(confirm, broken)
            self.assertEqual((made.confirm, made.broken), (confirm, broken))

    def test_2_4_refused(self):
        for thing in STRANGE + (65536,):
            self.refuses(BadVerdicts(), Verdicts, thing, 0)
            self.refuses(BadVerdicts(), Verdicts, 0, thing)
        self.refuses(BadVerdicts(), Verdicts, 3, 2)
        self.refuses(BadVerdicts(), Verdicts, 65535, 65535)

    def test_2_4_on(self):
        v = Verdicts(8, 2)
        self.assertEqual([v.on(day) for day in (0, 1, 3, 15)], ["silent", "broken", "confirmed", "silent"])
        self.assertEqual(Verdicts(32768, 1).on(15), "confirmed")
        for thing in STRANGE + (16,):
            self.refuses(NoDay(thing), v.on, thing)

    def test_2_4_none_and_equality(self):
        self.assertTrue(Verdicts.none() == Verdicts(0, 0))
        self.assertTrue(Verdicts(8, 2) == Verdicts(8, 2))
        self.assertFalse(Verdicts(8, 2) != Verdicts(8, 2))
        self.differs(Verdicts(8, 2), Verdicts(8, 0), Verdicts(0, 2), Verdicts(2, 8), (8, 2), Saying(10, 8), None)


class Joining(Case):
    def test_2_5_the_sum(self):
        for v in SMALL:
            for w in SMALL:
                total = v + w
                for day in range(3):
                    words = (v.on(day), w.on(day))
                    wanted = "broken" if "broken" in words else "confirmed" if "confirmed" in words else "silent"
                    self.assertEqual(total.on(day), wanted)

    def test_2_5_any_order_and_grouping(self):
        chance = seeded(25)
        for v in SMALL:
            self.assertEqual(v + v, v)
            self.assertEqual(v + Verdicts.none(), v)
            self.assertEqual(Verdicts.none() + v, v)
            w, u = chance.choice(SMALL), chance.choice(SMALL)
            self.assertEqual(v + w, w + v)
            self.assertEqual((v + w) + u, v + (w + u))

    def test_2_5_verdicts_of(self):
        for saying in all_sayings(TWO):
            self.assertEqual(verdicts_of(saying), Verdicts(saying.confirm, saying.broken))
        self.assertEqual(verdicts_of(Saying(3, 13)), Verdicts(1, 2))

    def test_2_5_joined(self):
        self.assertEqual(joined([]), Verdicts.none())
        self.assertEqual(joined(()), Verdicts.none())
        self.assertEqual(joined(Book(TWO, [])), Verdicts.none())
        chance = seeded(251)
        for _ in range(50):
            sayings = [some_saying(chance, FOUR) for _ in range(chance.randint(1, 12))]
            total = Verdicts.none()
            for saying in sayings:
                total = total + Verdicts(saying.confirm, saying.broken)
            for given in (sayings, tuple(sayings), Book(FOUR, sayings), sayings * 2):
                self.assertEqual(joined(given), total)
        self.assertEqual(joined([Saying(3, 1)] * 999 + [Saying(4, 4)]), Verdicts(5, 2))

    def test_2_5_both_kinds_count(self):
        self.assertEqual(joined([Saying(3, 1, False), Saying(3, 1)]), Verdicts(1, 2))

    def test_example_of_part_2(self):
        v = joined([Saying(10, 12), Saying(5, 4)])
        self.assertEqual((v.confirm, v.broken, sharper(v, Verdicts(12, 3))), (12, 3, True))


class Sharper(Case):
    def test_2_6_what_it_means(self):
        for one in SMALL:
            for other in SMALL:
                wanted = all(other.on(day) == "confirmed" for day in range(3) if one.on(day) == "confirmed") and all(
                    one.on(day) == "broken" for day in range(3) if other.on(day) == "broken")
                self.assertIs(sharper(one, other), wanted)
                if wanted and sharper(other, one):
                    self.assertEqual(one, other)

    def test_2_6_it_stays_behind_joining_and_may_be_chained(self):
        chance = seeded(26)
        for _ in range(3000):
            one, other, w = (chance.choice(SMALL) for _ in range(3))
            if sharper(one, other):
                self.assertTrue(sharper(one + w, other + w))
                if sharper(other, w):
                    self.assertTrue(sharper(one, w))

    def test_2_6_it_has_a_direction(self):
        self.assertTrue(sharper(Verdicts(0, 1), Verdicts(2, 0)))
        self.assertFalse(sharper(Verdicts(2, 0), Verdicts(0, 1)))
        self.assertFalse(sharper(Verdicts(2, 0), Verdicts(0, 0)))
        self.assertTrue(sharper(Verdicts(0, 0), Verdicts(2, 0)))
