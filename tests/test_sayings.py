"""Sayings: points 0.2, 2.1, 2.2 and 2.3."""

from tests.helpers import ORDERS, STRANGE, TWO, Case, all_sayings, bits, plain_keeps
from usualdays.errors import BadSaying, NoDay
from usualdays.sayings import Saying

NO_DAY_SETS = tuple(thing for thing in STRANGE) + (65536, 10 ** 200)


class Making(Case):
    def test_2_1_attributes(self):
        s = Saying(10, 12)
        self.assertEqual((s.where, s.then, s.usual, s.confirm, s.broken), (10, 12, True, 8, 2))
        n = Saying(10, 12, False)
        self.assertEqual((n.where, n.then, n.usual, n.confirm, n.broken), (10, 12, False, 8, 2))
        full = Saying(65535, 65535, usual=True)
        self.assertEqual((full.where, full.then, full.confirm, full.broken), (65535, 65535, 65535, 0))
        self.assertEqual((Saying(1, 0).confirm, Saying(1, 0).broken), (0, 1))

    def test_2_1_where(self):
        for thing in NO_DAY_SETS + (0,):
            self.refuses(BadSaying("where"), Saying, thing, 1)
            self.refuses(BadSaying("where"), Saying, thing, None, None)

    def test_2_1_then(self):
        for thing in NO_DAY_SETS:
            self.refuses(BadSaying("then"), Saying, 1, thing)
            self.refuses(BadSaying("then"), Saying, 65535, thing, 3)

    def test_2_1_usual(self):
        for thing in (None, 0, 1, "True", (), [True]):
            self.refuses(BadSaying("usual"), Saying, 1, 1, thing)

    def test_2_1_equality(self):
        self.assertTrue(Saying(10, 12) == Saying(10, 12, True))
        self.assertFalse(Saying(10, 12) != Saying(10, 12))
        self.differs(Saying(10, 12), Saying(10, 8), Saying(10, 12, False), Saying(11, 12), (10, 12, True), None, 10)
        self.assertEqual(Saying(10, 8).confirm, Saying(10, 12).confirm)


class Keeping(Case):
    def test_2_2_low_high_and_step(self):
        for saying in all_sayings(TWO):
            wanted = (saying.confirm, saying.broken, 1) if saying.usual else (saying.broken, saying.confirm, 0)
            self.assertEqual((saying.low, saying.high, saying.step), wanted)
            self.assertTrue(saying.low or saying.high)

    def test_2_2_they_say_what_keeping_means(self):
        for saying in all_sayings(TWO):
            for layers in ORDERS[4]:
                low = [layers[day] for day in bits(saying.low)]
                high = [layers[day] for day in bits(saying.high)]
                kept = all(low and layer >= saying.step + min(low) for layer in high)
                self.assertEqual(kept, plain_keeps(layers, saying))

    def test_2_2_the_text_example(self):
        s = Saying(10, 12)
        self.assertEqual((s.low, s.high, s.step), (8, 2, 1))
        n = s.contrary()
        self.assertEqual((n.usual, n.low, n.high, n.step), (False, 2, 8, 0))


class Methods(Case):
    def test_2_3_contrary_and_flipped(self):
        for saying in all_sayings(TWO) + [Saying(3, 12), Saying(5, 6, False)]:
            other = saying.contrary()
            self.assertEqual((other.where, other.then, other.usual), (saying.where, saying.then, not saying.usual))
            self.assertEqual(other.contrary(), saying)
            turned = saying.flipped()
            self.assertEqual((turned.where, turned.then, turned.usual),
                             (saying.where, saying.broken, saying.usual))
            self.assertEqual((turned.confirm, turned.broken), (saying.broken, saying.confirm))

    def test_2_3_an_order_keeps_one_of_a_saying_and_its_contrary(self):
        for saying in all_sayings(TWO):
            for layers in ORDERS[4]:
                self.assertNotEqual(plain_keeps(layers, saying), plain_keeps(layers, saying.contrary()))

    def test_2_3_on(self):
        for saying in (Saying(10, 12), Saying(10, 12, False)):
            self.assertEqual([saying.on(day) for day in range(5)],
                             ["silent", "broken", "silent", "confirmed", "silent"])
            self.assertEqual(saying.on(15), "silent")
        self.assertEqual(Saying(32768, 32768).on(15), "confirmed")
        for thing in STRANGE + (16,):
            self.refuses(NoDay(thing), Saying(10, 12).on, thing)

    def test_2_3_of_days(self):
        for confirm, broken in ((8, 2), (0, 1), (1, 0), (65535, 0), (0, 65535), (43690, 21845)):
            for kind in (True, False):
                made = Saying.of_days(confirm, broken, kind)
                self.assertEqual((made.where, made.then, made.usual), (confirm | broken, confirm, kind))
                self.assertEqual((made.confirm, made.broken), (confirm, broken))
        self.assertIs(Saying.of_days(8, 2).usual, True)
        self.assertIs(Saying.of_days(8, 2, usual=False).usual, False)

    def test_2_3_errors_of_of_days(self):
        for thing in NO_DAY_SETS:
            self.refuses(BadSaying("confirm"), Saying.of_days, thing, None, None)
            self.refuses(BadSaying("confirm"), Saying.of_days, thing, 1)
            self.refuses(BadSaying("broken"), Saying.of_days, 1, thing, None)
        self.refuses(BadSaying("overlap"), Saying.of_days, 3, 2)
        self.refuses(BadSaying("overlap"), Saying.of_days, 3, 2, None)
        self.refuses(BadSaying("where"), Saying.of_days, 0, 0)
        self.refuses(BadSaying("where"), Saying.of_days, 0, 0, None)
        for thing in (None, 0, 1, "x"):
            self.refuses(BadSaying("usual"), Saying.of_days, 1, 2, thing)
