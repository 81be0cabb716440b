"""Weights: points 5.1 and 5.2."""

from math import gcd

from tests.helpers import STRANGE, Case, bits, seeded
from usualdays.errors import BadWeights, NoDay, OtherDays
from usualdays.orders import Order
from usualdays.weights import Weights

GREAT = 10 ** 299


def some_numbers(chance, days):
    numbers = [chance.choice((0, 0, 1, 2, 3, 12, GREAT)) for _ in range(days)]
    numbers[chance.randrange(days)] = 6
    return numbers


class Making(Case):
    def test_5_1_numbers(self):
        for numbers in ([0, 1], (5, 0, 0, 7), [1] * 8, tuple(range(16)), [GREAT, 0]):
            weights = Weights(numbers)
            self.assertIs(type(weights.numbers), tuple)
            self.assertEqual(weights.numbers, tuple(numbers))
            self.assertEqual(list(weights), list(numbers))
            self.assertEqual(len(weights), len(numbers))
            self.assertEqual([weights[day] for day in range(len(numbers))], list(numbers))

    def test_5_1_total_and_full(self):
        for numbers, total, full in (([0, 1], 1, False), ([2, 1], 3, True), ([1, 0, 0, 5], 6, False),
                                     ([1] * 16, 16, True), ([1] * 15 + [0], 15, False),
                                     ([GREAT, GREAT], 2 * GREAT, True)):
            self.assertEqual(Weights(numbers).total, total)
            self.assertIs(Weights(numbers).is_full, full)

    def test_5_1_count(self):
        for thing in STRANGE + ([], [1], [1, 1, 1], [0] * 5, [True] * 7, [1] * 17, [1] * 32, "11", {0: 1, 1: 1},
                                Order([0, 1])):
            self.refuses(BadWeights("count"), Weights, thing)

    def test_5_1_number(self):
        for thing in (True, False, None, "1", 1.0, (1,), [1], -1, -GREAT):
            self.refuses(BadWeights("number"), Weights, [thing, 1])
            self.refuses(BadWeights("number"), Weights, (0, 0, 0, thing))

    def test_5_1_none(self):
        for days in (2, 4, 8, 16):
            self.refuses(BadWeights("none"), Weights, [0] * days)

    def test_5_1_no_day(self):
        weights = Weights([3, 1, 4, 1])
        for thing in STRANGE + (4, 16, slice(0, 1), 10 ** 20):
            self.refuses(NoDay(thing), weights.__getitem__, thing)
        self.refuses(NoDay(2), Weights([1, 1]).__getitem__, 2)

    def test_5_1_equal(self):
        self.assertEqual(Weights([1, 2]), Weights((1, 2)))
        self.differs(Weights([1, 2]), Weights([2, 4]), Weights([2, 1]), Weights([1, 2, 0, 0]), (1, 2), [1, 2],
                     Order([1, 0]), None)
        self.differs(Weights([1, 0]), Order([1, 0]))

    def test_0_5_a_list_is_not_kept(self):
        numbers = [1, 2]
        weights = Weights(numbers)
        numbers[0] = 7
        self.assertEqual(weights.numbers, (1, 2))


class Reckoning(Case):
    def test_5_2_of_and_given(self):
        chance = seeded(52)
        for days in (2, 4, 8, 16):
            for _ in range(60):
                numbers = some_numbers(chance, days)
                weights = Weights(numbers)
                for day_set in (0, 2 ** days - 1, chance.randint(0, 2 ** days - 1)):
                    weight = sum(numbers[day] for day in bits(day_set))
                    self.assertEqual(weights.of(day_set), weight)
                    if weight:
                        part = weights.given(day_set)
                        self.assertIsInstance(part, Weights)
                        self.assertEqual(part.numbers, tuple(
                            number if day in bits(day_set) else 0 for day, number in enumerate(numbers)))
                    else:
                        self.refuses(BadWeights("none"), weights.given, day_set)
                self.assertEqual(weights.numbers, tuple(numbers))

    def test_5_2_other_days(self):
        for days in (2, 4, 8, 16):
            weights = Weights([1] + [0] * (days - 1))
            for thing in STRANGE + (2 ** days, 2 ** days + 1, 2 ** 20, 1.0):
                self.refuses(OtherDays(), weights.of, thing)
                self.refuses(OtherDays(), weights.given, thing)
            self.refuses(BadWeights("none"), weights.given, 2)
            self.refuses(BadWeights("none"), weights.given, 0)

    def test_5_2_sums(self):
        chance = seeded(521)
        for days in (2, 4, 8, 16):
            one, other = some_numbers(chance, days), some_numbers(chance, days)
            self.assertEqual((Weights(one) + Weights(other)).numbers, tuple(a + b for a, b in zip(one, other)))
        self.assertEqual(Weights([0, 1]) + Weights([2, 0]), Weights([2, 1]))
        for other in ([1] * 4, [1] * 16):
            self.refuses(OtherDays(), lambda: Weights([0, 1]) + Weights(other))
            self.refuses(OtherDays(), lambda: Weights(other) + Weights([0, 1]))

    def test_5_2_products(self):
        weights = Weights([0, 3, 1, GREAT])
        for factor in (1, 2, 10 ** 280):
            self.assertEqual((weights * factor).numbers, (0, 3 * factor, factor, GREAT * factor))
        for factor in (0, -1, True, False, None, "2", 2.0, (1,), weights):
            self.refuses(BadWeights("number"), lambda: weights * factor)
        self.assertEqual(weights.numbers, (0, 3, 1, GREAT))

    def test_5_2_lowest(self):
        for numbers, lowest in (([0, 6], (0, 1)), ([4, 6], (2, 3)), ([0, 0, 9, 15], (0, 0, 3, 5)), ([1, 7], (1, 7)),
                                ([GREAT, 3 * GREAT], (1, 3)), ([12] * 16, (1,) * 16)):
            self.assertEqual(Weights(numbers).lowest().numbers, lowest)
        chance = seeded(522)
        for _ in range(100):
            numbers = some_numbers(chance, 8)
            lowest = Weights(numbers).lowest()
            self.assertEqual(gcd(*lowest), 1)
            self.assertEqual((lowest * gcd(*numbers)).numbers, tuple(numbers))

    def test_5_2_even(self):
        for days in (2, 4, 8, 16):
            self.assertEqual(Weights.even(days).numbers, (1,) * days)
        for thing in STRANGE + (0, 1, 3, 5, 15, 17, 32, 2.0, "2", (2,), 10 ** 30):
            self.refuses(BadWeights("count"), Weights.even, thing)
