"""Parting: points 9.9 and 9.10."""

from tests.helpers import (ONE, ORDERS, STRANGE, TWO, Case, all_sayings, keeping, plain_keeps, seeded, some_book,
                           some_kept_book, some_saying)
from tests.test_merges import plain_merge
from tests.test_watchers import some_watchers
from usualdays.books import Book
from usualdays.errors import BadWay, OtherDays
from usualdays.lifting import Lifted, Stuck, lift
from usualdays.marks import Marks
from usualdays.orders import Order
from usualdays.parting import Parting, parting_fault, parting_of
from usualdays.pins import pin
from usualdays.sayings import Saying
from usualdays.told import tells
from usualdays.watchers import Watchers

WAYS = ("lower", "higher", "first")
V = Watchers(Book(ONE, [Saying(3, 2)]), Book(ONE, [Saying(3, 1)]))


def interleaved(one, other):
    """All ways in which the levels of two orders without gaps may lie beside one another: pairs of their layers."""
    def places(mine, yours, layer):
        if mine == 0 and yours == 0:
            yield (), ()
            return
        for take, give in ((1, 0), (0, 1), (1, 1)):
            if take <= mine and give <= yours:
                for low, high in places(mine - take, yours - give, layer + 1):
                    yield ((layer,) if take else ()) + low, ((layer,) if give else ()) + high

    for low, high in places(max(one), max(other), 1):
        yield tuple(((0,) + low)[layer] for layer in one), tuple(((0,) + high)[layer] for layer in other)


def closed(layers):
    places = sorted(set(layers))
    return tuple(places.index(layer) for layer in layers)


MERGES = {}


def all_merges(way, one, other):
    """The merges of all orders that sort alike with two orders without gaps, as they sort."""
    if (way, one, other) not in MERGES:
        # Which of two days lies lower in the merge "first" does not hang on how far apart they lie.
        pairs = [(one, other)] if way == "first" else interleaved(one, other)
        MERGES[way, one, other] = {closed(plain_merge(way, *pair)) for pair in pairs}
    return MERGES[way, one, other]


def small_watchers(chance):
    """Two watchers over at most two marks together."""
    names = chance.choice((("a", "a"), ("a", "b"), ("ab", "a"), ("b", "ab"), ("ab", "ba"), ("ab", "ab")))
    books = [some_kept_book(chance, Marks(tuple(own)), chance.randint(0, 3)) if chance.random() < 0.9
             else some_book(chance, Marks(tuple(own)), 3) for own in names]
    return Watchers(*books)


class PartingOf(Case):
    def parted(self, both, way, saying):
        found = parting_of(both, way, saying)
        if found is not None:
            self.assertIs(type(found), Parting)
            self.assertIsNone(parting_fault(both, way, saying, found))
        return found

    def against_all_orders(self, both, sayings):
        """All sayings and all ways; returns for each whether some merge breaks the saying."""
        seen = []
        pairs = [(one, other) for one in keeping(both.wide_one) for other in keeping(both.wide_other)]
        for way in WAYS:
            merges = set().union(*[all_merges(way, *pair) for pair in pairs])
            for saying in sayings:
                broken = any(not plain_keeps(layers, saying) for layers in merges)
                self.assertEqual(self.parted(both, way, saying) is not None, broken)
                seen.append((way, saying.usual, broken))
        return seen

    def test_9_9_one_mark(self):
        sayings = all_sayings(ONE)
        for one in sayings:
            for other in sayings:
                self.against_all_orders(Watchers(Book(ONE, [one]), Book(ONE, [other])), sayings)

    def test_9_9_two_marks(self):
        chance = seeded(99)
        seen = []
        for _ in range(45):
            both = small_watchers(chance)
            seen += self.against_all_orders(both, [some_saying(chance, both.marks) for _ in range(8)])
            told = [saying for saying in all_sayings(both.marks)
                    if saying.low and saying.high and tells(both.together, saying)]
            self.against_all_orders(both, chance.sample(told, min(len(told), 4)))
        self.assertEqual(len(set(seen)), 12)
        self.assertLess(20, min(seen.count(key) for key in set(seen)))

    def test_9_9_pinned_books(self):
        # Where each book has one order alone, but for its gaps, hardly a day can lie where it is wanted.
        chance = seeded(994)
        pins = [pin(TWO, Order(layers)) for layers in ORDERS[4]]
        seen = []
        for _ in range(250):
            both = Watchers(chance.choice(pins), chance.choice(pins))
            seen += self.against_all_orders(both, [some_saying(chance, TWO) for _ in range(5)])
        self.assertEqual(len(set(seen)), 12)
        # One order has the days 1 and 0 at the bottom; in the other one they lie together above the days 2 and 3.
        level = Watchers(pin(TWO, Order((0, 0, 1, 1))), pin(TWO, Order((2, 2, 1, 0))))
        turned = Watchers(level.other, level.one)
        above = Watchers(pin(TWO, Order((3, 3, 1, 0))), pin(TWO, Order((1, 0, 1, 0))))
        for both in (level, turned, above):
            self.against_all_orders(both, all_sayings(TWO))
            self.assertIsNotNone(self.parted(both, "higher", Saying.of_days(6, 1)))

    def test_9_9_more_marks_against_drawn_orders(self):
        chance = seeded(992)
        seen = {}
        for _ in range(200):
            names = chance.choice(("abc", "abcd"))
            both = some_watchers(chance, names, 3, 5, 1)
            saying = some_saying(chance, both.marks)
            if chance.random() < 0.5 and len(both.together):
                saying = both.together[chance.randrange(len(both.together))]
            for way in WAYS:
                found = self.parted(both, way, saying)
                seen[way, found is None] = seen.get((way, found is None), 0) + 1
                if found is None:
                    self.all_drawn_merges_keep(chance, both, way, saying)
        self.assertEqual(len(seen), 6)

    def all_drawn_merges_keep(self, chance, both, way, saying):
        for _ in range(5):
            orders = [self.drawn_order(chance, book) for book in (both.wide_one, both.wide_other)]
            self.assertTrue(plain_keeps(plain_merge(way, *orders), saying))

    def drawn_order(self, chance, book):
        """Layers of an order that keeps a book: with drawn further sayings, and stretched."""
        further = []
        for _ in range(chance.randint(0, 4)):
            saying = some_saying(chance, book.marks)
            if isinstance(lift(book, *further, saying), Lifted):
                further.append(saying)
        layers = lift(book, *further).order.layers
        steps = [chance.choice((1, 1, 1, 2, 5, 40)) for _ in range(max(layers))]
        return tuple(sum(steps[:layer]) for layer in layers)

    def test_9_9_what_is_promised_of_told_sayings(self):
        chance = seeded(993)
        for _ in range(120):
            both = some_watchers(chance, "abc", 3, 4, 1)
            saying = some_saying(chance, both.marks)
            one, other = tells(both.wide_one, saying), tells(both.wide_other, saying)
            if one and other:
                self.assertIsNone(parting_of(both, "lower", saying))
            if one and saying.usual:
                self.assertIsNone(parting_of(both, "first", saying))
            if both.wide_one.first_need_not is None and saying.usual and not one:
                self.assertIsNotNone(parting_of(both, "first", saying))

    def test_9_9_no_order(self):
        impossible = Book(ONE, [Saying(1, 0)])
        for both in (Watchers(impossible, Book(ONE, [])), Watchers(Book(TWO, []), impossible),
                     Watchers(impossible, impossible)):
            for way in WAYS:
                for saying in all_sayings(both.marks):
                    self.assertIsNone(parting_of(both, way, saying))

    def test_9_9_examples_and_edges(self):
        self.assertIsNone(parting_of(V, "first", Saying(3, 2)))
        self.assertIsNotNone(parting_of(V, "lower", Saying(3, 2)))
        free = Watchers(Book(ONE, []), Book(Marks(("b",)), []))
        for way in WAYS:
            # All orders keep a saying with an empty high, and none keeps one with an empty low.
            self.assertIsNone(parting_of(free, way, Saying(6, 6)))
            self.assertIsNone(parting_of(free, way, Saying(15, 0, False)))
            self.assertIsNotNone(parting_of(free, way, Saying(6, 0)))
            self.assertIsNotNone(parting_of(free, way, Saying(15, 15, False)))
            self.assertIsNotNone(self.parted(free, way, Saying(3, 1)))
            self.assertIsNotNone(self.parted(free, way, Saying(3, 1, False)))

    def test_9_9_a_pair_that_needs_a_choice(self):
        # In an order of each, one of two days lies above the day 0, but not always the same one.
        one = Book(TWO, [Saying.of_days(1, 6, False), Saying.of_days(2, 8, False)])
        for other in (Book(TWO, []), Book(TWO, [Saying.of_days(6, 1, False)]), Book(TWO, [Saying.of_days(2, 1)])):
            self.against_all_orders(Watchers(one, other), all_sayings(TWO))

    def test_9_9_errors(self):
        for way in ("", "second", "Lower", *STRANGE):
            self.refuses(BadWay(way), parting_of, V, way, Saying(3, 1))
            self.refuses(BadWay(way), parting_of, V, way, Saying(3, 3))
            self.refuses(OtherDays(), parting_of, V, way, Saying(4, 1))
        for saying in (Saying(4, 1), Saying(1, 4), Saying(65535, 0, False)):
            for way in WAYS:
                self.refuses(OtherDays(), parting_of, V, way, saying)

    def test_0_6_results_keep_their_arguments(self):
        one, other = Order([0, 1]), Order([1, 0])
        self.assertEqual(vars(Parting(one, other)), {"one": one, "other": other})


class Judging(Case):
    def test_9_10_words(self):
        saying = Saying(3, 2)
        low, high, flat = Order((0, 1)), Order((1, 0)), Order((0, 0))
        for way, one, other, word in (
                ("lower", low, low, "one"), ("lower", flat, flat, "one"), ("lower", high, high, "other"),
                ("lower", high, flat, "other"), ("lower", high, low, None), ("first", high, low, "kept"),
                ("higher", high, low, None), ("higher", Order((2, 0)), low, "kept"), ("first", low, high, "one")):
            self.assertEqual(parting_fault(V, way, saying, Parting(one, other)), word)
        self.assertIsNone(parting_fault(V, "first", Saying(3, 1), Parting(high, low)))

    def test_9_10_drawn(self):
        chance = seeded(910)
        words = set()
        for _ in range(400):
            both = small_watchers(chance)
            way = chance.choice(WAYS)
            saying = some_saying(chance, both.marks)
            orders = ORDERS[both.marks.days]
            one = chance.choice(keeping(both.wide_one) if chance.random() < 0.7 and keeping(both.wide_one) else orders)
            other = chance.choice(orders)
            kept = [all(plain_keeps(layers, own) for own in book)
                    for layers, book in ((one, both.wide_one), (other, both.wide_other))]
            merged = plain_keeps(plain_merge(way, one, other), saying)
            word = "one" if not kept[0] else "other" if not kept[1] else "kept" if merged else None
            words.add(word)
            self.assertEqual(parting_fault(both, way, saying, Parting(Order(one), Order(other))), word)
        self.assertEqual(words, {"one", "other", "kept", None})

    def test_9_10_errors(self):
        right, wrong = Order((0, 1)), Order((0, 1, 1, 1))
        for result in (Parting(right, wrong), Parting(wrong, right), Parting(wrong, wrong)):
            for way in ("lower", "no way", None):
                self.refuses(OtherDays(), parting_fault, V, way, Saying(3, 1), result)
        for saying in (Saying(4, 1), Saying(1, 4)):
            for way in ("first", "no way"):
                self.refuses(OtherDays(), parting_fault, V, way, saying, Parting(right, right))
        for way in ("", "second", *STRANGE):
            self.refuses(BadWay(way), parting_fault, V, way, Saying(3, 1), Parting(right, right))
        self.assertIsInstance(lift(V.together), Stuck)
