"""Quarrels and withdrawals: points 10.2 to 10.4."""

from tests.helpers import (FOUR, ONE, THREE, TWO, Case, all_sayings, keeping, plain_lots, seeded, some_book,
                           some_kept_book, some_saying)
from tests.test_leastbooks import plain_least
from tests.test_meeting import sorted_lots
from usualdays.books import Book
from usualdays.errors import OtherDays, TooMany
from usualdays.leastbooks import least_books
from usualdays.lifting import Stuck, lift
from usualdays.liftjudge import stuck_fault
from usualdays.lots import telling_lots
from usualdays.meeting import least_meeting
from usualdays.orders import Order
from usualdays.sayings import Saying
from usualdays.strife import Strife, strife, strife_fault
from usualdays.told import tells

Q = Book(TWO, [Saying(10, 8), Saying(10, 2), Saying(12, 4)])
FOREIGN = (Saying(16, 1), Saying(1, 16), Saying(65535, 0, False))


def lots_of(pairs):
    return tuple(lot for lot, _ in pairs)


class Quarrelling(Case):
    def judged(self, book, *further):
        found = strife(book, *further)
        self.assertIsNone(strife_fault(book, found, *further))
        quarrels, withdrawals = found.quarrels, found.withdrawals
        for pairs in (quarrels, withdrawals):
            self.assertIs(type(pairs), tuple)
            self.assertTrue(all(type(pair) is tuple and type(pair[0]) is tuple for pair in pairs))
            self.assertEqual(lots_of(pairs), sorted_lots(lots_of(pairs)))
        for lot, stuck in quarrels:
            self.assertIsNone(stuck_fault(book.only(lot), stuck, *further))
        for lot, order in withdrawals:
            self.assertEqual(order, lift(book.without(lot), *further).order)
        self.assertEqual(lots_of(withdrawals), least_meeting(lots_of(quarrels)))
        self.assertEqual(lots_of(quarrels), least_meeting(lots_of(withdrawals)))
        return found

    def against_all_orders(self, book, *further):
        found = self.judged(book, *further)
        lots = plain_lots(len(book))
        clashing = [lot for lot in lots if not keeping(book.only(lot), *further)]
        mending = [lot for lot in lots if keeping(book.without(lot), *further)]
        self.assertEqual(lots_of(found.quarrels), plain_least(clashing))
        self.assertEqual(lots_of(found.withdrawals), plain_least(mending))
        for lot, order in found.withdrawals:
            orders = keeping(book.without(lot), *further)
            self.assertEqual(order.layers, tuple(min(layers) for layers in zip(*orders)))
        for lot in lots:
            self.assertEqual(lot not in clashing, not any(set(own) <= set(lot) for own in lots_of(found.quarrels)))
        return found

    def test_10_2_one_mark(self):
        sayings = all_sayings(ONE)
        for one in sayings:
            for other in sayings:
                self.against_all_orders(Book(ONE, [one]), other)
        chance = seeded(102)
        for _ in range(60):
            book = Book(ONE, [some_saying(chance, ONE) for _ in range(chance.randint(2, 5))])
            self.against_all_orders(book, *[some_saying(chance, ONE) for _ in range(chance.choice((0, 0, 1, 2)))])

    def test_10_2_two_marks(self):
        chance = seeded(1021)
        quarrels, withdrawals = set(), set()
        for _ in range(80):
            book = Book(TWO, [some_saying(chance, TWO) for _ in range(chance.randint(0, 6))])
            held = [some_saying(chance, TWO) for _ in range(chance.choice((0, 0, 1, 3)))]
            found = self.against_all_orders(book, *held)
            quarrels.add(min(len(found.quarrels), 4))
            withdrawals.add(min(len(found.withdrawals), 4))
        self.assertLessEqual({0, 1, 2, 3}, quarrels & withdrawals)

    def test_10_2_more_marks(self):
        chance = seeded(1022)
        for marks in (THREE, FOUR):
            for _ in range(8):
                book = some_kept_book(chance, marks, 5)
                book = Book(marks, [saying for saying in book] + [some_saying(chance, marks) for _ in range(3)])
                self.judged(book)
                self.judged(book, some_saying(chance, marks))

    def test_10_3_lots_that_tell(self):
        chance = seeded(103)
        for _ in range(60):
            marks = chance.choice((TWO, TWO, THREE))
            book, saying = some_book(chance, marks, 5), some_saying(chance, marks)
            found = strife(book, saying.contrary())
            self.assertEqual(lots_of(found.quarrels), telling_lots(book, saying))
            silent = [lot for lot in plain_lots(len(book)) if not tells(book.without(lot), saying)]
            self.assertEqual(lots_of(found.withdrawals), plain_least(silent))

    def test_10_3_least_books_without_orders(self):
        chance = seeded(1031)
        many = 0
        while many < 25:
            book = some_book(chance, TWO, 6)
            if isinstance(lift(book), Stuck):
                many += 1
                self.assertEqual(lots_of(strife(book).quarrels), least_books(book))

    def test_10_2_examples(self):
        found = self.against_all_orders(Q)
        self.assertEqual([len(found.quarrels), found.quarrels[0][0]], [1, (0, 1)])
        self.assertEqual([(lot, order.layers) for lot, order in found.withdrawals],
                         [((0,), (0, 0, 0, 1)), ((1,), (0, 2, 0, 1))])
        held = self.against_all_orders(Q, Saying(14, 2))
        self.assertEqual((lots_of(held.quarrels), lots_of(held.withdrawals)), (((0,),), ((0,),)))

    def test_10_2_edges(self):
        empty = strife(Book(TWO, []))
        self.assertEqual((empty.quarrels, lots_of(empty.withdrawals)), ((), ((),)))
        self.assertEqual(empty.withdrawals[0][1], Order.flat(4))
        kept = strife(Q.only((0, 2)), Saying(15, 15))
        self.assertEqual((kept.quarrels, lots_of(kept.withdrawals)), ((), ((),)))
        for held in ([Saying(3, 0)], [Saying(3, 1), Saying(15, 15), Saying(3, 2)]):
            stuck = self.against_all_orders(Q, *held)
            self.assertEqual((lots_of(stuck.quarrels), stuck.withdrawals), (((),), ()))
        eight = Book(TWO, [Saying(3, 1), Saying(3, 2)] * 4)
        found = strife(eight)
        self.assertEqual(len(found.quarrels), 16)
        self.assertEqual(lots_of(found.withdrawals), ((0, 2, 4, 6), (1, 3, 5, 7)))
        self.assertIsNone(strife_fault(eight, found))
        # The held sayings may be many.
        self.assertEqual(lots_of(strife(Q, *[Saying(10, 8)] * 12).quarrels), ((1,),))

    def test_10_2_errors(self):
        nine, twelve = Book(TWO, [Saying(3, 1)] * 9), Book(TWO, [Saying(3, 1)] * 12)
        right = strife(Q)
        for saying in FOREIGN:
            for further in ([saying], [Saying(3, 1), saying]):
                self.refuses(OtherDays(), strife, Q, *further)
                self.refuses(OtherDays(), strife, nine, *further)
                self.refuses(OtherDays(), strife_fault, Q, right, *further)
                self.refuses(OtherDays(), strife_fault, nine, right, *further)
        for book, many in ((nine, 9), (twelve, 12)):
            self.refuses(TooMany(many), strife, book)
            self.refuses(TooMany(many), strife, book, Saying(3, 1))
            self.refuses(TooMany(many), strife_fault, book, Strife((), ()))

    def test_0_6_results_keep_their_arguments(self):
        pair = ((0,), Order([0, 1]))
        self.assertEqual(vars(Strife((), (pair,))), {"quarrels": (), "withdrawals": (pair,)})


class Judging(Case):
    def setUp(self):
        self.book = Book(TWO, [Saying(10, 8), Saying(10, 2), Saying(12, 4), Saying(12, 8)])
        self.found = strife(self.book)
        self.stuck = dict(self.found.quarrels)
        self.order = dict(self.found.withdrawals)

    def judged(self, word, quarrels=None, withdrawals=None):
        quarrels = self.found.quarrels if quarrels is None else quarrels
        withdrawals = self.found.withdrawals if withdrawals is None else withdrawals
        self.assertEqual(strife_fault(self.book, Strife(tuple(quarrels), tuple(withdrawals))), word)

    def test_10_4_none(self):
        self.assertEqual((sorted(self.stuck), sorted(self.order)),
                         ([(0, 1), (2, 3)], [(0, 2), (0, 3), (1, 2), (1, 3)]))
        self.judged(None)
        # The order need not be the least one.
        higher = tuple((lot, Order([layer * 3 for layer in order])) for lot, order in self.found.withdrawals)
        self.judged(None, withdrawals=higher)

    def test_10_4_lots(self):
        stuck, order = self.stuck[(0, 1)], self.order[(0, 2)]
        for lot in ((1, 0), (0, 0), (0, 4), (-1, 0), (True, 2), (0, None), [0, 1], (0, 1, 1)):
            self.judged("lots", quarrels=((lot, stuck),))
            self.judged("lots", quarrels=((lot, Stuck(0, (), ())),), withdrawals=())
            self.judged("lots", withdrawals=((lot, order),))
            self.judged("lots", withdrawals=(*self.found.withdrawals, (lot, Order.flat(2))))
        quarrels, withdrawals = self.found.quarrels, self.found.withdrawals
        for pairs in (quarrels[::-1], quarrels + quarrels[-1:], (quarrels[0], *quarrels),
                      (((0, 1), stuck), ((2,), stuck)), (((0, 1, 2), stuck), ((0, 2), stuck))):
            self.judged("lots", quarrels=pairs)
        for pairs in (withdrawals[::-1], withdrawals * 2, (withdrawals[1], withdrawals[0], *withdrawals[2:]),
                      (withdrawals[0], withdrawals[0], *withdrawals[1:]), (*withdrawals, ((), order))):
            self.judged("lots", withdrawals=pairs)

    def test_10_4_stuck(self):
        for wrong in (Stuck(0, (), ()), self.stuck[(2, 3)], Stuck(15, (None,) * 4, (0,) * 4)):
            self.judged("stuck", quarrels=(((0, 1), wrong), self.found.quarrels[1]))
            self.judged("stuck", quarrels=(((0, 1), wrong),), withdrawals=(((0, 2), Order.flat(2)),))
        self.judged("stuck", quarrels=(self.found.quarrels[0], ((0, 3), self.stuck[(2, 3)])))
        # The numbers of the paper are those of the sayings of the lot alone, not those of the book.
        whole = lift(self.book.only((2, 3)))
        self.assertEqual(set(whole.grounds), {0, 1})
        self.judged("stuck", quarrels=(self.found.quarrels[0],
                                       ((2, 3), Stuck(whole.days, tuple(None if reason is None else reason + 2
                                                                        for reason in whole.reasons), whole.heights))))

    def test_10_4_order(self):
        withdrawals = self.found.withdrawals
        for wrong in (Order.flat(4), Order.flat(2), Order.flat(8), self.order[(1, 3)]):
            self.judged("order", withdrawals=(((0, 2), wrong), *withdrawals[1:]))
            self.judged("order", withdrawals=(((0, 2), wrong),))

    def test_10_4_meeting(self):
        quarrels, withdrawals = self.found.quarrels, self.found.withdrawals
        for pairs in ((), withdrawals[:3], withdrawals[1:], (*withdrawals, ((0, 1, 2), self.order[(0, 2)]))):
            self.judged("meeting", withdrawals=pairs)
        for pairs in ((), quarrels[:1], quarrels[1:]):
            self.judged("meeting", quarrels=pairs)

    def test_10_4_smaller(self):
        wide = lift(self.book.only((0, 1, 2)))
        all_four = lift(self.book)
        self.judged("smaller", quarrels=(*self.found.quarrels, ((0, 1, 2), wide)))
        self.judged("smaller", quarrels=(*self.found.quarrels, ((0, 1, 2, 3), all_four)))

    def test_10_4_held_sayings(self):
        held = Saying(14, 2)
        found = strife(Q, held)
        self.assertIsNone(strife_fault(Q, found, held))
        self.assertEqual(strife_fault(Q, found), "stuck")
        self.assertEqual(strife_fault(Q, strife(Q), held), "order")
        self.assertEqual(strife_fault(Q, strife(Q, held.contrary()), held), "order")
        only_order = Strife((), (((), Order((0, 2, 0, 1))),))
        self.assertEqual(strife_fault(Q.only((0, 2)), only_order), None)
        self.assertEqual(strife_fault(Q.only((0, 2)), only_order, held), "order")
