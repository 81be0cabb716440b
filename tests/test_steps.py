"""Big steps: points 5.5 and 5.6."""

from fractions import Fraction

from tests.helpers import (FOUR, ONE, ORDERS, STRANGE, THREE, TWO, Case, all_sayings, bits, keeping, plain_doubt,
                           plain_keeps, seeded, some_book, some_kept_book, some_saying)
from usualdays.books import Book
from usualdays.errors import BadStep, BadWeights
from usualdays.lifting import Lifted, Stuck, lift, lifted_layers
from usualdays.orders import Order
from usualdays.steps import big_steps, order_by_weights
from usualdays.weights import Weights


def plain_steps(layers, step):
    known = {layer for layer in layers if layer is not None}
    return tuple(0 if own is None else step ** len([layer for layer in known if layer > own]) for own in layers)


def some_full_weights(chance, days):
    """Full weights, some near the edge of what keeps a saying."""
    step = chance.choice((1, 2, days - 1, days, days + 1, 1000))
    numbers = [step ** chance.randint(0, 4) for _ in range(days)]
    return [max(1, number + chance.choice((0, 0, 0, 1, -1))) for number in numbers]


class Steps(Case):
    def test_5_5_big_steps(self):
        for layers, step, numbers in (
                ((0, 0), 5, (1, 1)), ((0, 1), 5, (5, 1)), ((3, 0, 7, 3), 10, (10, 100, 1, 10)),
                ((None, 2), 5, (0, 1)), ((4, None, 2, None), 3, (1, 0, 3, 0)), ((0, 2, 1, 1), 1, (1, 1, 1, 1)),
                ((0, 10 ** 30), 10 ** 299, (10 ** 299, 1)), (tuple(range(16)), 2,
                                                             tuple(2 ** k for k in range(15, -1, -1)))):
            for given in (layers, list(layers)):
                weights = big_steps(given, step)
                self.assertIsInstance(weights, Weights)
                self.assertEqual(weights.numbers, numbers)
        self.assertEqual(big_steps(Order((3, 0, 7, 3)), 10).numbers, (10, 100, 1, 10))

    def test_5_5_big_steps_of_lifted_layers(self):
        chance = seeded(55)
        for marks in (ONE, TWO, THREE, FOUR):
            for _ in range(100):
                layers = lifted_layers(some_book(chance, marks, 5))
                step = chance.choice((1, 2, 3, 10 ** 20))
                if set(layers) == {None}:
                    self.refuses(BadWeights("none"), big_steps, layers, step)
                else:
                    self.assertEqual(big_steps(layers, step).numbers, plain_steps(layers, step))

    def test_5_5_bad_step(self):
        for layers in (Order.flat(4), (None,) * 4, (0, None)):
            for thing in STRANGE + (0, -7, 2.0, "2"):
                self.refuses(BadStep(thing), big_steps, layers, thing)
        for days in (2, 4, 8, 16):
            self.refuses(BadWeights("none"), big_steps, (None,) * days, 1)

    def test_5_5_order_by_weights(self):
        for numbers, layers in (((1, 1), (0, 0)), ((0, 1), (1, 0)), ((5, 0, 9, 5), (1, 2, 0, 1)),
                                ((10 ** 200, 1, 0, 10 ** 200 - 1), (0, 2, 3, 1)), ((7,) * 16, (0,) * 16)):
            order = order_by_weights(Weights(numbers))
            self.assertIsInstance(order, Order)
            self.assertEqual(order.layers, layers)

    def test_5_5_there_and_back(self):
        chance = seeded(551)
        for days in (2, 4, 8, 16):
            for _ in range(60):
                order = Order.lowered([chance.choice((0, 1, 5, 10 ** 29, chance.randint(0, 20))) for _ in range(days)])
                for step in (2, 3, 256, 10 ** 50):
                    self.assertEqual(order_by_weights(big_steps(order, step)), order.closed())
                self.assertEqual(order_by_weights(big_steps(order, 1)), Order.flat(days))

    def test_5_6_an_order_keeps_what_is_hardly_doubtful(self):
        for marks in (ONE, TWO):
            n = marks.days
            sayings = all_sayings(marks, usual=True)
            for layers in ORDERS[n]:
                for step in (n * n, n * n + 1, 10 ** 30):
                    numbers = big_steps(Order(layers), step).numbers
                    for saying in sayings:
                        self.assertEqual(plain_keeps(layers, saying), plain_doubt(numbers, saying) < Fraction(1, n))

    def test_5_6_more_marks(self):
        chance = seeded(56)
        for marks in (THREE, FOUR):
            n = marks.days
            for _ in range(300):
                order = Order.lowered([chance.choice((0, 3, 10 ** 29, chance.randint(0, n))) for _ in range(n)])
                saying = some_saying(chance, marks, usual=True)
                numbers = big_steps(order, n * n).numbers
                self.assertEqual(order.keeps(saying), plain_doubt(numbers, saying) < Fraction(1, n))

    def test_5_6_full_weights_give_an_order_that_keeps(self):
        chance = seeded(561)
        met = 0
        for _ in range(3000):
            marks = chance.choice((ONE, TWO, TWO, THREE, FOUR))
            numbers = some_full_weights(chance, marks.days)
            book = [some_saying(chance, marks, usual=True) for _ in range(chance.randint(0, 3))]
            book = [saying for saying in book if chance.random() < 0.3 or saying.confirm]
            if all(plain_doubt(numbers, saying) < Fraction(1, marks.days) for saying in book):
                met += bool(book)
                self.assertTrue(order_by_weights(Weights(numbers)).keeps_all(Book(marks, book)))
        self.assertLess(300, met)

    def test_5_6_where_no_order_keeps_some_reason_is_doubtful(self):
        chance = seeded(562)
        stuck = 0
        while stuck < 150:
            marks = chance.choice((ONE, TWO, TWO, THREE))
            book = some_book(chance, marks, 6, usual=True)
            found = lift(book)
            if isinstance(found, Lifted):
                continue
            self.assertIsInstance(found, Stuck)
            stuck += 1
            for _ in range(10):
                numbers = some_full_weights(chance, marks.days)
                doubts = [plain_doubt(numbers, book[number]) for number in found.grounds]
                self.assertGreaterEqual(max(doubts), Fraction(1, len(bits(found.days))))

    def test_5_6_the_least_order_of_a_book(self):
        chance = seeded(563)
        for _ in range(100):
            book = some_kept_book(chance, TWO, 5, usual=True)
            numbers = big_steps(lift(book).order, 16).numbers
            self.assertTrue(all(plain_doubt(numbers, saying) < Fraction(1, 4) for saying in book))
            self.assertIn(lift(book).order.layers, keeping(book))

    def test_5_5_weights_of_0(self):
        self.assertEqual(order_by_weights(Weights([0, 3, 0, 1])).layers, (2, 0, 2, 1))
        self.assertEqual(order_by_weights(big_steps((None, 4, 0, None), 7)).layers, (2, 1, 0, 2))
