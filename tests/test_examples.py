"""The examples at the ends of the parts."""

from tests.helpers import Case
from usualdays.bench import Bench
from usualdays.books import Book
from usualdays.booktext import read_book, read_saying
from usualdays.choices import choice_sayings
from usualdays.cores import core, fronts
from usualdays.counting import counting_order, counts_of, grades_of
from usualdays.derivations import Step, derivation_fault
from usualdays.errors import BadRow, BadSentence
from usualdays.exchange import exchange_layers
from usualdays.expecting import expects, least_order
from usualdays.greatest import greatest_doubt, lot_of
from usualdays.history import History
from usualdays.learning import learn
from usualdays.leastbooks import carriers, least_books
from usualdays.lifting import lift, lifted_layers
from usualdays.lots import sharp_lots, silent_lots, telling_lots, widest_lot
from usualdays.margins import margin, order_apart, relation
from usualdays.marks import Marks
from usualdays.news import stack
from usualdays.orders import Order, layer_lines
from usualdays.parting import parting_of
from usualdays.pins import Unpinned, ladder, pin, pinned
from usualdays.reader import read_sentence
from usualdays.sayings import Saying
from usualdays.sentences import Mark, names_in
from usualdays.shelves import serving_lots
from usualdays.steady import cheapest, steady, steady_fault
from usualdays.strife import strife
from usualdays.tables import Table, settle
from usualdays.thin import needed, thin
from usualdays.told import standing, tell
from usualdays.trim import trim
from usualdays.verdicts import Verdicts, joined, sharper
from usualdays.watchers import Watchers
from usualdays.weighing import weigh, weigh_fault

M = Marks(("a", "b"))
K = Book(M, [Saying(15, 10), Saying(15, 12)])


class Examples(Case):
    def test_part_1(self):
        self.assertEqual((M.days, M.all_days, M.day("b"), M.days_with("a"), M.label(2)), (4, 15, 2, 10, "-+"))
        s = read_sentence("a or not (b and a)")
        self.assertEqual((s.text(), s.true_days(M), names_in(s)), ("a or not (b and a)", 15, ("a", "b")))
        self.assertEqual((Mark("a") & ~Mark("b")).text(), "a and not b")
        self.refuses(BadSentence("operand", 11), read_sentence, "a and (b or")

    def test_part_2(self):
        s = read_saying(M, "where a usually b")
        self.assertEqual((s.where, s.then, s.confirm, s.broken, s.low, s.high, s.step), (10, 12, 8, 2, 8, 2, 1))
        n = s.contrary()
        self.assertEqual((n.usual, n.low, n.high, n.step), (False, 2, 8, 0))
        v = joined([s, Saying(5, 4)])
        self.assertEqual((v.confirm, v.broken, sharper(v, Verdicts(12, 3))), (12, 3, True))
        K = read_book("marks a b\nwhere a usually b\nwhere any need not a and not b")
        self.assertEqual((len(K), K[1].where, K[1].then, K.first_need_not), (2, 15, 2, 1))
        self.refuses(BadRow(3, "where"), read_book, "marks a b\nwhere a usually b\n")

    def test_part_3(self):
        B = Book(Marks(["a", "b"]), [Saying(15, 5), Saying(10, 12), Saying(12, 5, usual=False)])
        L = lift(B)
        self.assertEqual((L.order.layers, L.reasons, L.grounds), ((0, 2, 1, 1), (None, 1, 2, 0), (0, 1, 2)))
        S = lift(B, Saying.of_days(2, 8))
        self.assertEqual((S.days, S.reasons, S.grounds), (14, (None, 1, 2, 3), (1, 2, 3)))
        self.assertEqual(lifted_layers(B, start=(0, 0, 5, 0)), (0, 2, 5, 1))
        self.assertEqual((list(layer_lines(L.order)), L.order(B), Order.flat(4)(B)),
                         (["   0: 0", "   1: 2 3", "   2: 1"], None, 0))

    def test_part_4(self):
        B = Book(Marks(["a", "b"]), [Saying(15, 5), Saying(10, 12)])
        self.assertEqual(tell(B, Saying(12, 5)).order.layers, (0, 2, 1, 1))
        c = Saying(15, 13)
        self.assertEqual(
            (standing(B, c), sharp_lots(B, c), widest_lot(B, c), telling_lots(B, c), silent_lots(B, c)),
            ("told", ((0,), (1,)), (0, 1), ((0,), (1,)), ((),)))
        self.assertEqual((core(B, 15).days, core(B, 12).days, len(fronts(B, 15)), fronts(B, 15)[1].days), (5, 12, 2, 4))
        self.assertEqual((margin(B, 5, 2).many, relation(B, 4, 8), order_apart(B, 5, 8, 0)), (2, "free", None))
        steps = [Step("given", (1,), Saying(10, 8)), Step("weaker", (1,), Saying(10, 8))]
        self.assertEqual(derivation_fault(B, steps), (1, "lines"))

    def test_part_5(self):
        B = Book(Marks(["a", "b"]), [Saying(15, 10), Saying(10, 12)])
        found = greatest_doubt(B, [(1, 10), (1, 5)], Saying(15, 12))
        self.assertEqual((found.doubt, found.weights.lowest().numbers, found.multipliers, lot_of(found)),
                         ((7, 25), (5, 9, 0, 36), ((2, 25), (1, 5)), (0, 1)))

    def test_part_6(self):
        self.assertEqual((least_order(K).layers, grades_of(K), counts_of(K, 0), counting_order(K).layers),
                         ((1, 1, 1, 0), (0, 0), (2,), (2, 1, 1, 0)))
        s = Saying(5, 4)
        self.assertEqual((expects(K, s), expects(K, s.contrary()), counting_order(K).keeps(s)), (False, True, True))
        t = Table.of_order(least_order(K))
        self.assertEqual(t.normals, (0, 1, 2, 3, 4, 5, 6, 7, 8, 8, 8, 8, 8, 8, 8, 8))
        c = settle(Table((0, 1, 2, 1, 4, 5, 6, 7, 8, 8, 8, 8, 8, 8, 8, 8)))
        self.assertEqual((c.many, c.few), (7, 3))
        self.assertEqual([(x.low, x.high, x.step) for x in choice_sayings([(7, 3)])], [(3, 4, 1), (1, 6, 0), (2, 5, 0)])

    def test_part_7(self):
        H = History(Order.flat(4))
        self.assertEqual((H.put(K[0], 2), H.put(K[1], 1), H.now.layers), (0, 1, (3, 1, 2, 0)))
        H.take_back(0)
        self.assertEqual((H.now.layers, H.as_of(1).layers, H.without(1).layers, H.lying, H.deeds),
                         ((1, 1, 0, 0), (2, 0, 2, 0), (0, 0, 0, 0), (1,), 3))
        self.assertEqual(weigh(K, (0, 0), Saying(5, 4)).matches, (2, None, None, None))
        self.assertEqual(weigh(K, (1, 0), Saying(6, 2)).matches, (None, None, 1, None))
        self.assertIsNone(weigh_fault(K, (0, 0), Saying(6, 2), weigh(K, (0, 0), Saying(6, 2))))
        self.assertEqual(learn(K).forces, (1, 1))
        self.assertEqual([(p.saying.then, p.force) for p in stack(Order((3, 1, 3, 0)))], [(8, 1), (10, 2)])

    def test_part_8(self):
        book = Book(M, [Saying(10, 12), Saying(15, 10), Saying(15, 12)])
        self.assertEqual([(x.low, x.high) for x in book], [(8, 2), (10, 5), (12, 3)])
        self.assertEqual((needed(book), thin(book).kept), ((1,), (0, 1)))
        self.assertEqual((least_books(book), carriers(book)), (((0, 1), (1, 2)), ((0, 1), (1, 2))))
        least = lift(book).order
        self.assertEqual(least.layers, (1, 1, 1, 0))
        found = trim(book)
        self.assertEqual(([(x.low, x.high) for x in found.book], found.numbers), ([(8, 4), (8, 3)], (1, 2)))
        self.assertIsInstance(pinned(book), Unpinned)
        self.assertTrue(Order((1, 2, 1, 0)).keeps_all(book))
        self.assertEqual([(x.low, x.high) for x in ladder(M, least)], [(8, 7)])
        self.assertEqual([(x.low, x.high, x.step) for x in pin(M, least)],
                         [(8, 7, 1), (1, 2, 0), (2, 4, 0), (4, 1, 0)])

    def test_part_9(self):
        U = Watchers(Book(Marks(("a", "b")), (Saying(10, 12),)), Book(Marks(("a", "c")), (Saying(15, 5),)))
        self.assertEqual(U.shared, ("a",))
        self.assertEqual(exchange_layers(U).reports, ((0, 0), (0, 1), (0, 1)))
        self.assertEqual(exchange_layers(U).order, Order((0, 2, 0, 1, 0, 2, 0, 1)))
        V = Watchers(Book(Marks(("a",)), (Saying(3, 2),)), Book(Marks(("a",)), (Saying(3, 1),)))
        self.assertEqual(exchange_layers(V).reports, ((1, 0), (1, 2)))
        self.assertIsNone(parting_of(V, "first", Saying(3, 2)))
        self.assertIsNotNone(parting_of(V, "lower", Saying(3, 2)))

    def test_part_10(self):
        Q = Book(M, [Saying(10, 8), Saying(10, 2), Saying(12, 4)])
        told = strife(Q)
        self.assertEqual([len(told.quarrels), told.quarrels[0][0], told.withdrawals[0][0], told.withdrawals[1][0]],
                         [1, (0, 1), (0,), (1,)])
        self.assertEqual([told.withdrawals[0][1].layers, told.withdrawals[1][1].layers], [(0, 0, 0, 1), (0, 2, 0, 1)])
        loose = steady(Q, Saying(6, 4))
        self.assertEqual([loose.lot, loose.order.layers, steady_fault(Q, Saying(6, 4), loose)],
                         [(0,), (0, 0, 0, 1), None])
        cheap = cheapest(Q, [3, 1, 5])
        self.assertEqual([cheap.cost, cheap.lots], [1, ((1,),)])
        shelf = [Saying(9, 1), Saying(5, 1), Saying(12, 4)]
        self.assertEqual(list(serving_lots(Book(M, []), shelf, [Saying(12, 4)], [])),
                         [(0,), (2,), (0, 2), (1, 2), (0, 1, 2)])
        bench = Bench(Q)
        self.assertEqual([bench.put(Saying(6, 4)), bench.quarrel_lots(), bench.mend(1), len(bench)],
                         [3, ((0, 1),), (1,), 3])
