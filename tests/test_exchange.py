"""Meeting, exchange and joined orders: points 9.5 to 9.7."""

from tests.helpers import (FOUR, ONE, THREE, TWO, Case, bits, keeping, plain_tells, seeded, some_book, some_kept_book,
                           some_saying)
from tests.test_looks import plain_look
from tests.test_watchers import some_marks, some_watchers
from usualdays.books import Book
from usualdays.errors import OtherDays, OtherLook, StuckAlone
from usualdays.exchange import Clash, Exchange, Met, Stranded, exchange_layers, join_orders, meet
from usualdays.lifting import Lifted, Stuck, lift
from usualdays.liftjudge import stuck_fault
from usualdays.looks import look_of, widened_book
from usualdays.marks import Marks
from usualdays.orders import Order
from usualdays.sayings import Saying
from usualdays.told import tells
from usualdays.watchers import Watchers

IMPOSSIBLE = Book(ONE, [Saying(3, 1), Saying(3, 2)])


def plain_lift(book, start):
    """The least layers from a start up, raised day by day; for books that some order keeps."""
    layers = list(start)
    again = True
    while again:
        again = False
        for saying in book:
            for day in bits(saying.high):
                least = min(layers[low] for low in bits(saying.low)) + saying.step
                if layers[day] < least:
                    layers[day] = least
                    again = True
    return layers


def plain_reports(both):
    """All reports and the last layers of each watcher, by the words of point 9.6."""
    books, lifted, reports = (both.one, both.other), [None, None], []
    last = [0] * 2 ** len(both.shared)
    while True:
        book = books[len(reports) % 2]
        looks = [plain_look(book.marks, day, both.shared) for day in range(book.marks.days)]
        layers = plain_lift(book, [last[look] for look in looks])
        lifted[len(reports) % 2] = layers
        report = tuple(min(layer for layer, look in zip(layers, looks) if look == day)
                       for day in range(2 ** len(both.shared)))
        reports.append(report)
        if len(reports) > 1 and report == reports[-2]:
            return reports, lifted
        if max(report) >= both.marks.days:
            return reports, None
        last = report


def kept_watchers(chance, names="abcd", most=4, sayings=5):
    """Two watchers whose own books have orders."""
    while True:
        both = some_watchers(chance, names, most, sayings, 1)
        if chance.random() < 0.6 or isinstance(lift(both.together), Stuck) or both.shared:
            return both


class Meeting(Case):
    def met(self, both):
        found = meet(both)
        own = [lift(both.one), lift(both.other)]
        stuck = [who for who, answer in zip(("one", "other"), own) if isinstance(answer, Stuck)]
        if stuck:
            self.assertIs(type(found), Stranded)
            self.assertEqual(found.who, stuck[0])
            book = both.one if found.who == "one" else both.other
            self.assertIsNone(stuck_fault(book, found.stuck))
            return "stranded"
        together = lift(both.together)
        if isinstance(together, Stuck):
            self.assertIs(type(found), Clash)
            self.assertIsNone(stuck_fault(both.together, found.stuck))
            self.assertEqual({both.owner(number) for number in found.stuck.grounds}, {"one", "other"})
            self.assertTrue(both.shared)
            return "clash"
        self.assertIs(type(found), Met)
        self.assertEqual((found.one, found.other, found.order), (own[0].order, own[1].order, together.order))
        return "met"

    def test_9_5_all_orders(self):
        chance = seeded(95)
        words = set()
        for _ in range(300):
            both = some_watchers(chance, "ab", 2, 3, 0.6)
            word = self.met(both)
            words.add(word)
            orders = [keeping(book) for book in (both.one, both.other, both.together)]
            self.assertEqual(word, "stranded" if not (orders[0] and orders[1]) else "met" if orders[2] else "clash")
            if word == "met":
                found = meet(both)
                self.assertEqual([order.layers for order in (found.one, found.other, found.order)],
                                 [tuple(min(layers) for layers in zip(*own)) for own in orders])
        self.assertEqual(words, {"stranded", "clash", "met"})

    def test_9_5_more_marks(self):
        chance = seeded(951)
        words = [self.met(some_watchers(chance, sayings=6)) for _ in range(250)]
        for word in ("stranded", "clash", "met"):
            self.assertLess(5, words.count(word))

    def test_9_5_nothing_shared(self):
        chance = seeded(952)
        told = 0
        for _ in range(120):
            one = some_kept_book(chance, some_marks(chance, "ab", 2), 3)
            other = some_kept_book(chance, some_marks(chance, "cd", 2), 3)
            both = Watchers(one, other)
            self.assertEqual(self.met(both), "met")
            for book in (one, other):
                saying = some_saying(chance, book.marks)
                wide = widened_book(Book(book.marks, [saying]), both.marks)[0]
                told += tells(book, saying)
                self.assertEqual(tells(both.together, wide), tells(book, saying))
        self.assertLess(20, told)

    def test_9_5_edges(self):
        free = Book(TWO, [])
        self.assertEqual(meet(Watchers(IMPOSSIBLE, IMPOSSIBLE)).who, "one")
        self.assertEqual(meet(Watchers(free, IMPOSSIBLE)).who, "other")
        self.assertEqual(meet(Watchers(IMPOSSIBLE, free)).who, "one")
        found = meet(Watchers(free, Book(ONE, [])))
        self.assertEqual((found.one, found.other, found.order), (Order.flat(4), Order.flat(2), Order.flat(4)))

    def test_0_6_results_keep_their_arguments(self):
        order, stuck = Order([0, 1]), Stuck(1, (0, None), (0, 0))
        self.assertEqual(vars(Stranded("one", stuck)), {"who": "one", "stuck": stuck})
        self.assertEqual(vars(Met(order, order, order)), {"one": order, "other": order, "order": order})
        self.assertEqual(vars(Clash(stuck)), {"stuck": stuck})
        self.assertEqual(vars(Exchange(((0,),), order, None, order)),
                         {"reports": ((0,),), "one": order, "other": None, "order": order})


class Exchanging(Case):
    def exchanged(self, both):
        found = exchange_layers(both)
        self.assertIs(type(found.reports), tuple)
        self.assertTrue(all(type(report) is tuple for report in found.reports))
        reports, lifted = plain_reports(both)
        self.assertEqual(list(found.reports), reports)
        together = lift(both.together)
        if isinstance(together, Stuck):
            self.assertEqual((lifted, found.one, found.other, found.order), (None,) * 4)
            self.assertGreaterEqual(max(found.reports[-1]), both.marks.days)
            return len(reports), True
        self.assertEqual([list(found.one.layers), list(found.other.layers)], lifted)
        self.assertEqual(found.order, together.order)
        self.assertEqual(found.order, join_orders(both, found.one, found.other))
        self.assertEqual(found.reports[-1], found.reports[-2])
        self.assertTrue(found.one.keeps_all(both.one) and found.other.keeps_all(both.other))
        return len(reports), False

    def test_9_6_drawn(self):
        chance = seeded(96)
        seen = set()
        for names, most, many in (("ab", 2, 300), ("abc", 3, 250), ("abcd", 4, 200)):
            for _ in range(many):
                both = some_watchers(chance, names, most, 6, 1)
                if chance.random() < 0.5 and both.shared != both.marks.names:
                    both = Watchers(some_kept_book(chance, Marks(tuple(names)), 4),
                                    some_kept_book(chance, Marks(tuple(reversed(names))), 4))
                count, clash = self.exchanged(both)
                seen.add((min(count, 5), clash))
        self.assertLessEqual({(2, False), (3, False), (4, False), (3, True), (4, True)}, seen)

    def test_9_6_the_least_order_of_both_by_all_orders(self):
        chance = seeded(961)
        for _ in range(150):
            both = some_watchers(chance, "ab", 2, 3, 1)
            orders = keeping(both.together)
            found = exchange_layers(both)
            self.assertEqual(found.order is None, not orders)
            if orders:
                self.assertEqual(found.order.layers, tuple(min(layers) for layers in zip(*orders)))

    def test_9_6_examples(self):
        both = Watchers(Book(TWO, [Saying(10, 12)]), Book(Marks(("a", "c")), [Saying(15, 5)]))
        found = exchange_layers(both)
        self.assertEqual(found.reports, ((0, 0), (0, 1), (0, 1)))
        self.assertEqual((found.one.layers, found.other.layers), ((0, 2, 0, 1), (0, 1, 0, 1)))
        self.assertEqual(found.order.layers, (0, 2, 0, 1, 0, 2, 0, 1))
        clash = Watchers(Book(ONE, [Saying(3, 2)]), Book(ONE, [Saying(3, 1)]))
        self.assertEqual(exchange_layers(clash).reports, ((1, 0), (1, 2)))

    def test_9_6_edges(self):
        nothing = Watchers(Book(ONE, [Saying(3, 2)]), Book(Marks(("b",)), []))
        self.assertEqual(exchange_layers(nothing).reports, ((0,), (0,)))
        self.assertEqual(exchange_layers(nothing).order.layers, (1, 0, 1, 0))
        # A first report of zeros is new, for those at the beginning are no report.
        for one, other in (([], []), ([Saying(3, 3)], [Saying(3, 1, False)])):
            both = Watchers(Book(ONE, one), Book(ONE, other))
            self.assertEqual(exchange_layers(both).reports, ((0, 0), (0, 0)))
        # A long exchange: the days of the shared marks rise one by one.
        steps = [Saying(2 ** day + 2 ** (day + 1), 2 ** day) for day in range(7)]
        long = Watchers(Book(THREE, steps[1::2]), Book(THREE, steps[::2]))
        self.assertEqual(exchange_layers(long).order.layers, tuple(range(8)))
        self.assertEqual(len(exchange_layers(long).reports), 9)

    def test_9_6_stuck_alone(self):
        free = Book(TWO, [])
        self.refuses(StuckAlone("one"), exchange_layers, Watchers(IMPOSSIBLE, free))
        self.refuses(StuckAlone("other"), exchange_layers, Watchers(free, IMPOSSIBLE))
        self.refuses(StuckAlone("one"), exchange_layers, Watchers(IMPOSSIBLE, IMPOSSIBLE))
        self.refuses(StuckAlone("other"), exchange_layers, Watchers(free, Book(FOUR, [Saying(9, 0)])))


class Joining(Case):
    def test_9_7_drawn(self):
        chance = seeded(97)
        fitting = 0
        for _ in range(400):
            both = some_watchers(chance, "abcd", 3)
            days = [book.marks.days for book in (both.one, both.other)]
            top = chance.choice((1, 2, 10 ** 30))
            orders = [Order.lowered([chance.choice((0, top)) for _ in range(many)]) for many in days]
            looks = [[min(layer for day, layer in enumerate(order) if plain_look(book.marks, day, both.shared) == look)
                      for look in range(2 ** len(both.shared))] for book, order in zip((both.one, both.other), orders)]
            wrong = [day for day, (mine, yours) in enumerate(zip(*looks)) if mine != yours]
            if wrong:
                self.refuses(OtherLook(wrong[0]), join_orders, both, *orders)
                continue
            fitting += 1
            joint = join_orders(both, *orders)
            names = both.one.marks.names, both.other.marks.names
            for day in range(both.marks.days):
                self.assertEqual(joint[day], max(order[plain_look(both.marks, day, own)]
                                                 for order, own in zip(orders, names)))
            for order, own in zip(orders, names):
                self.assertEqual(look_of(both.marks, joint, own), order.layers)
        self.assertLess(100, fitting)

    def test_9_7_both_have_an_order_exactly_if_some_orders_look_alike(self):
        chance = seeded(971)
        for _ in range(80):
            both = some_watchers(chance, "ab", 2, 3, 1)
            looks = [{look_of(book.marks, layers, both.shared) for layers in with_gaps(book)}
                     for book in (both.one, both.other)]
            self.assertEqual(bool(looks[0] & looks[1]), isinstance(lift(both.together), Lifted))

    def test_9_7_errors(self):
        both = Watchers(Book(TWO, []), Book(Marks(("b", "c", "a")), []))
        flat = Order.flat
        for one, other in ((2, 8), (8, 4), (4, 4), (16, 8), (4, 16)):
            self.refuses(OtherDays(), join_orders, both, flat(one), flat(other))
        self.refuses(OtherDays(), join_orders, both, Order((1, 0)), flat(8))
        self.refuses(OtherLook(1), join_orders, both, Order((0, 1, 1, 1)), flat(8))
        self.refuses(OtherLook(3), join_orders, both, Order((0, 0, 0, 4)), Order((0,) * 5 + (5, 0, 5)))
        self.assertEqual(join_orders(both, Order((0, 0, 0, 4)), Order((0,) * 5 + (4, 0, 9))).layers,
                         (0, 0, 0, 4, 0, 0, 0, 9))
        joint = join_orders(both, Order((0, 1, 2, 4)), Order((0, 2, 5, 9, 1, 4, 7, 4)))
        self.assertEqual(joint.layers, (0, 1, 2, 4, 5, 7, 9, 4))

    def test_9_7_nothing_shared(self):
        both = Watchers(Book(ONE, []), Book(Marks(("b",)), []))
        self.assertEqual(join_orders(both, Order((0, 3)), Order((10 ** 30, 0))).layers, (10 ** 30, 10 ** 30, 0, 3))


def with_gaps(book):
    """Orders of a book over one or two marks with layers up to 4: enough to look like one another."""
    for layers in keeping(book):
        top = max(layers)
        for code in range(5 ** top):
            places, above = [0], 0
            for step in range(top):
                above += 1 + code // 5 ** step % 5
                places.append(above)
            yield tuple(places[layer] for layer in layers)


class Promises(Case):
    def test_9_5_tells_of_own_marks_by_all_orders(self):
        chance = seeded(953)
        for _ in range(60):
            both = Watchers(some_kept_book(chance, ONE, 2), some_kept_book(chance, Marks(("b",)), 2))
            saying = some_saying(chance, ONE)
            wide = widened_book(Book(ONE, [saying]), both.marks)[0]
            self.assertEqual(plain_tells(both.together, wide), plain_tells(both.one, saying))

    def test_0_5_the_same_again(self):
        chance = seeded(954)
        for _ in range(20):
            both = Watchers(some_book(chance, TWO, 3), some_kept_book(chance, THREE, 3))
            if isinstance(lift(both.one), Lifted):
                first, second = exchange_layers(both), exchange_layers(both)
                self.assertEqual((first.reports, first.order), (second.reports, second.order))
