"""News: points 7.1 to 7.3."""

from tests.helpers import (FOUR, ONE, ORDERS, STRANGE, THREE, TWO, Case, all_sayings, bits, lowest, plain_keeps, seeded,
                           some_saying)
from usualdays.errors import BadPiece, NeedNot, OtherDays, TooMany
from usualdays.news import Piece, firmness, order_of_news, single_piece, stack
from usualdays.orders import Order
from usualdays.sayings import Saying
from usualdays.verdicts import Verdicts

GREATEST = 10 ** 27
HIGHEST = 10 ** 26


def plain_news(start, pieces):
    """The layers of the order of the news, by the words of point 7.1."""
    sums = [layer + sum(piece.force for piece in pieces if day in bits(piece.saying.broken))
            for day, layer in enumerate(start)]
    return tuple(layer - min(sums) for layer in sums)


def some_piece(chance, marks):
    return Piece(some_saying(chance, marks, usual=True), chance.choice((1, 2, 3, chance.randint(1, 9), GREATEST)))


def some_start(chance, days):
    return Order.lowered([chance.choice((0, 0, 1, chance.randint(0, 9), HIGHEST)) for _ in range(days)])


class Pieces(Case):
    def test_7_1_attributes(self):
        saying = Saying(3, 13)
        for force in (1, 7, GREATEST):
            piece = Piece(saying, force)
            self.assertIs(piece.saying, saying)
            self.assertEqual(piece.force, force)
        self.assertEqual(Piece(Saying(65535, 0), 1).saying, Saying(65535, 0))

    def test_7_1_saying(self):
        for thing in STRANGE + (Saying(3, 1, False), Verdicts(1, 2), (3, 1), "where a usually b"):
            self.refuses(BadPiece("saying"), Piece, thing, 1)
            self.refuses(BadPiece("saying"), Piece, thing, 0)

    def test_7_1_force(self):
        for thing in STRANGE + (0, -7, GREATEST + 1, 10 ** 300, 1.5, "1"):
            self.refuses(BadPiece("force"), Piece, Saying(3, 1), thing)

    def test_7_1_equal(self):
        piece = Piece(Saying(3, 1), 2)
        self.assertEqual(piece, Piece(Saying(3, 1), 2))
        self.differs(piece, Piece(Saying(3, 1), 3), Piece(Saying(3, 5), 2), Piece(Saying(1, 1), 2), (Saying(3, 1), 2),
                     Saying(3, 1), 2, None)


class Orders(Case):
    def test_7_1_order_of_news(self):
        chance = seeded(71)
        for marks in (ONE, TWO, THREE, FOUR):
            for _ in range(100):
                start = some_start(chance, marks.days)
                pieces = [some_piece(chance, marks) for _ in range(chance.choice((0, 1, 2, 5, 60)))]
                order = order_of_news(start, pieces)
                self.assertIsInstance(order, Order)
                self.assertEqual(order.layers, plain_news(start, pieces))
                self.assertEqual(order, order_of_news(start, tuple(pieces)))
                chance.shuffle(pieces)
                self.assertEqual(order, order_of_news(start, pieces))

    def test_7_1_edges(self):
        start = Order((0, 3, 1, HIGHEST))
        self.assertEqual(order_of_news(start, []), start)
        self.assertEqual(order_of_news(start, [Piece(Saying(15, 15), 7), Piece(Saying(15, 0), 7)]), start)
        most = [Piece(Saying(15, 7), GREATEST)] * 60
        self.assertEqual(order_of_news(start, most).layers, (0, 3, 1, HIGHEST + 60 * GREATEST))
        self.assertEqual(order_of_news(start, [Piece(Saying(15, 8), GREATEST)]).layers,
                         (9 * HIGHEST, 9 * HIGHEST + 3, 9 * HIGHEST + 1, 0))
        self.assertEqual(order_of_news(Order.flat(4), [Piece(Saying(3, 14), 2)]).layers, (2, 0, 0, 0))

    def test_7_1_other_days_and_too_many(self):
        start = Order.flat(4)
        fine = Piece(Saying(15, 1), 1)
        for saying in (Saying(16, 1), Saying(1, 16), Saying(65535, 3)):
            self.refuses(OtherDays(), order_of_news, start, [Piece(saying, 1)])
            self.refuses(OtherDays(), order_of_news, start, [fine] * 60 + [Piece(saying, 1)])
        for many in (61, 62, 200):
            self.refuses(TooMany(many), order_of_news, start, [fine] * many)
        self.assertEqual(order_of_news(start, [fine] * 60).layers, (0, 60, 60, 60))
        self.refuses(OtherDays(), order_of_news, Order.flat(2), [Piece(Saying(4, 4), 1)])


class Firmness(Case):
    def test_7_2_firmness(self):
        for layers in ORDERS[4]:
            order = Order(layers)
            for saying in all_sayings(TWO, usual=True):
                found = firmness(order, saying)
                if saying.confirm and saying.broken:
                    self.assertEqual(found, lowest(layers, saying.broken) - lowest(layers, saying.confirm))
                    self.assertEqual(plain_keeps(layers, saying), found > 0)
                else:
                    self.assertIsNone(found)
        self.assertEqual(firmness(Order((0, HIGHEST)), Saying(3, 1)), HIGHEST)
        self.assertEqual(firmness(Order((0, HIGHEST)), Saying(3, 2)), -HIGHEST)

    def test_7_2_errors(self):
        for saying in (Saying(16, 1), Saying(1, 16), Saying(65535, 3, False)):
            self.refuses(OtherDays(), firmness, Order.flat(4), saying)
        for saying in (Saying(3, 1, False), Saying(3, 3, False), Saying(3, 0, False)):
            self.refuses(NeedNot(None), firmness, Order.flat(4), saying)

    def test_7_2_one_more_piece(self):
        chance = seeded(72)
        for _ in range(400):
            marks = chance.choice((ONE, TWO, THREE, FOUR))
            start = some_start(chance, marks.days)
            piece, other = some_piece(chance, marks), some_saying(chance, marks, usual=True)
            after = order_of_news(start, [piece])
            for saying in (piece.saying, other):
                before = firmness(start, saying)
                self.assertEqual(before is None, firmness(after, saying) is None)
                if before is not None:
                    change = firmness(after, saying) - before
                    self.assertLessEqual(abs(change), piece.force)
                    if saying == piece.saying:
                        self.assertEqual(change, piece.force)


class Stacks(Case):
    def test_7_3_stack(self):
        chance = seeded(73)
        orders = [Order(layers) for days in (2, 4) for layers in ORDERS[days]]
        orders += [some_start(chance, days) for days in (2, 4, 8, 16) for _ in range(60)]
        for order in orders:
            pieces = stack(order)
            self.assertIs(type(pieces), tuple)
            self.assertEqual(plain_news((0,) * len(order), pieces), order.layers)
            layers = sorted(set(order.layers))
            self.assertEqual(len(pieces), len(layers) - 1)
            for number, piece in enumerate(pieces):
                layer = layers[number + 1]
                below = sum(2 ** day for day in range(len(order)) if order[day] < layer)
                self.assertEqual(piece, Piece(Saying(2 ** len(order) - 1, below), layer - layers[number]))

    def test_7_3_stack_edges(self):
        self.assertEqual(stack(Order.flat(16)), ())
        self.assertEqual(stack(Order((0, HIGHEST))), (Piece(Saying(3, 1), HIGHEST),))
        self.assertEqual(len(stack(Order(tuple(range(16))))), 15)

    def test_7_3_single_piece(self):
        chance = seeded(731)
        found = 0
        for _ in range(400):
            marks = chance.choice((ONE, TWO, THREE, FOUR))
            one = some_start(chance, marks.days)
            then = chance.randint(1, marks.all_days - 1)
            piece = Piece(Saying(marks.all_days, then), chance.choice((1, 2, 9, HIGHEST)))
            other = order_of_news(one, [piece])
            if max(other) <= HIGHEST:
                found += 1
                self.assertEqual(single_piece(one, other), piece)
        self.assertLess(100, found)

    def test_7_3_there_is_no_other_single_piece(self):
        for layers in ORDERS[4]:
            one = Order(layers)
            made = {}
            for then in range(1, 15):
                for force in range(1, 8):
                    made[order_of_news(one, [Piece(Saying(15, then), force)]).layers] = (then, force)
            for others in ORDERS[4]:
                piece = single_piece(one, Order(others))
                if others in made:
                    self.assertEqual((piece.saying, piece.force), (Saying(15, made[others][0]), made[others][1]))
                else:
                    self.assertIsNone(piece)

    def test_7_3_single_piece_edges(self):
        self.assertIsNone(single_piece(Order.flat(4), Order.flat(4)))
        self.assertIsNone(single_piece(Order((0, 1, 2, 3)), Order((0, 1, 2, 3))))
        self.assertIsNone(single_piece(Order((0, 1, 2, 3)), Order((0, 2, 4, 3))))
        self.assertEqual(single_piece(Order((0, HIGHEST)), Order((HIGHEST, 0))), Piece(Saying(3, 2), 2 * HIGHEST))
        # No piece has a force above the greatest one.
        self.assertEqual(single_piece(Order((0, GREATEST)), Order((0, 0))), Piece(Saying(3, 2), GREATEST))
        self.assertIsNone(single_piece(Order((0, GREATEST + 1)), Order((0, 0))))
        for days in (2, 8, 16):
            self.refuses(OtherDays(), single_piece, Order.flat(4), Order.flat(days))
            self.refuses(OtherDays(), single_piece, Order.flat(days), Order.flat(4))

    def test_example_of_part_7(self):
        self.assertEqual([(p.saying.then, p.force) for p in stack(Order((3, 1, 3, 0)))], [(8, 1), (10, 2)])
