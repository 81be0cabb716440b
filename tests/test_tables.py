"""Tables: points 6.3 to 6.5."""

import itertools

from tests.helpers import ORDERS, STRANGE, Case, bits, seeded
from usualdays.errors import BadTable, OtherDays
from usualdays.orders import Order
from usualdays.tables import Choosy, Settled, Table, settle, settle_fault

PLAIN = (0, 1, 2, 1, 4, 5, 6, 7, 8, 8, 8, 8, 8, 8, 8, 8)


def plain_normal(layers, day_set):
    least = min([layers[day] for day in bits(day_set)], default=None)
    return sum(2 ** day for day in bits(day_set) if layers[day] == least)


def plain_table(layers):
    return tuple(plain_normal(layers, day_set) for day_set in range(2 ** len(layers)))


def shows(normals, many, few):
    """Whether two day sets show that a table is no order's, by the words of point 6.4."""
    if few == 0 or few & ~many:
        return False
    return normals[many] & few != 0 and normals[few] != normals[many] & few


def plain_word(normals, answer):
    """The word for an answer, by the words of point 6.5."""
    days = {4: 2, 16: 4, 256: 8}[len(normals)]
    if isinstance(answer, Settled):
        if not isinstance(answer.order, Order) or len(answer.order.layers) != days:
            return "order"
        return None if plain_table(answer.order.layers) == tuple(normals) else "normal"
    for day_set in (answer.many, answer.few):
        if type(day_set) is not int or not 0 < day_set < len(normals):
            return "few"
    if set(bits(answer.few)) - set(bits(answer.many)):
        return "few"
    if normals[answer.many] & answer.few == 0:
        return "shared"
    return "same" if normals[answer.few] == normals[answer.many] & answer.few else None


def some_normals(chance, days):
    """A table with a few choices at random, the others the lowest day alone."""
    normals = [0]
    for day_set in range(1, 2 ** days):
        normals.append(chance.randint(1, day_set) & day_set or day_set)
    return normals


def some_layers(chance, days):
    return Order.lowered([chance.randint(0, chance.choice((1, days, 9))) for _ in range(days)]).layers


class Making(Case):
    def test_6_3_attributes(self):
        for normals, days in (((0, 1, 2, 3), 2), (PLAIN, 4), (tuple(range(256)), 8)):
            for given in (normals, list(normals)):
                table = Table(given)
                self.assertIs(type(table.normals), tuple)
                self.assertEqual((table.normals, table.days), (normals, days))

    def test_6_3_count(self):
        for thing in STRANGE + ([], (), [0], [0, 1], [0] * 3, [0] * 5, [0] * 8, list(range(15)), list(range(17)),
                                [9] * 64,
                                [0] * 255, [0] * 65536, "0123", {0: 0, 1: 1, 2: 2, 3: 3}, Order([0, 0, 0, 0])):
            self.refuses(BadTable("count", None), Table, thing)

    def test_6_3_normal(self):
        for thing in (1, -1, True, False, None, "0", 0.0, (0,)):
            self.refuses(BadTable("normal", 0), Table, [thing, 1, 2, 3])
        for day_set, wrong in ((1, (0, 2, 3, -1, True, False, None, "1", 1.0)), (2, (0, 1, 3, True, None, -2)),
                               (3, (0, 4, 7, None, True, "3", -1))):
            for thing in wrong:
                normals = [0, 1, 2, 3]
                normals[day_set] = thing
                self.refuses(BadTable("normal", day_set), Table, normals)
        for day_set in range(1, 16):
            for thing in range(17):
                normals = list(PLAIN)
                normals[day_set] = thing
                if thing and thing & ~day_set == 0:
                    self.assertEqual(Table(normals).normals, tuple(normals))
                else:
                    self.refuses(BadTable("normal", day_set), Table, normals)

    def test_6_3_the_first_fault(self):
        self.refuses(BadTable("normal", 0), Table, [None, None, 2, 3])
        self.refuses(BadTable("normal", 2), Table, [0, 1, 1, 0])
        self.refuses(BadTable("normal", 255), Table, list(range(255)) + [256])

    def test_6_3_equal(self):
        self.assertEqual(Table(PLAIN), Table(list(PLAIN)))
        self.differs(Table((0, 1, 2, 3)), Table((0, 1, 2, 1)), Table(PLAIN), (0, 1, 2, 3), Order([0, 0]), None)

    def test_0_5_a_list_is_not_kept(self):
        normals = [0, 1, 2, 3]
        table = Table(normals)
        normals[3] = 1
        self.assertEqual(table.normals, (0, 1, 2, 3))

    def test_6_3_of_order(self):
        for days in (2, 4):
            for layers in ORDERS[days]:
                self.assertEqual(Table.of_order(Order(layers)).normals, plain_table(layers))
        chance = seeded(63)
        for _ in range(20):
            layers = some_layers(chance, 8)
            self.assertEqual(Table.of_order(Order(layers)), Table(plain_table(layers)))
        self.assertEqual(Table.of_order(Order([0, 10 ** 30])).normals, (0, 1, 2, 1))
        self.refuses(OtherDays(), Table.of_order, Order.flat(16))


class Settling(Case):
    def settled(self, normals):
        """Whether the answer is Settled; checked by going through all pairs of day sets, and by the judge."""
        table = Table(normals)
        answer = settle(table)
        self.assertIsNone(settle_fault(table, answer))
        self.assertIsNone(plain_word(normals, answer))
        if isinstance(answer, Choosy):
            self.assertTrue(shows(normals, answer.many, answer.few))
            return False
        self.assertEqual(sorted(set(answer.order.layers)), list(range(max(answer.order.layers) + 1)))
        self.assertFalse(any(shows(normals, many, few) for many in range(len(normals)) for few in range(many + 1)))
        return True

    def test_6_4_all_orders(self):
        for days in (2, 4):
            for layers in ORDERS[days]:
                for factor in (1, 7):
                    table = Table.of_order(Order([factor * layer for layer in layers]))
                    self.assertEqual(settle(table).order.layers, layers)
                self.assertTrue(self.settled(plain_table(layers)))

    def test_6_4_all_tables_of_two_days(self):
        for normal in (1, 2, 3):
            self.assertTrue(self.settled((0, 1, 2, normal)))

    def test_6_4_one_day_off(self):
        tables = {plain_table(layers) for layers in ORDERS[4]}
        for layers in ORDERS[4]:
            right = plain_table(layers)
            for day_set in range(1, 16):
                for day in bits(day_set):
                    normals = list(right)
                    normals[day_set] ^= 2 ** day
                    if normals[day_set]:
                        self.assertEqual(self.settled(normals), tuple(normals) in tables)

    def test_6_4_tables_of_four_days(self):
        chance = seeded(64)
        tables = {plain_table(layers) for layers in ORDERS[4]}
        for _ in range(400):
            normals = some_normals(chance, 4)
            self.assertEqual(self.settled(normals), tuple(normals) in tables)

    def test_6_4_tables_of_eight_days(self):
        chance = seeded(641)
        for _ in range(15):
            layers = some_layers(chance, 8)
            right = plain_table(layers)
            self.assertEqual(settle(Table(right)).order, Order(layers).closed())
            for _ in range(40):
                day_set = chance.randint(1, 255)
                normals = list(right)
                normals[day_set] ^= 2 ** chance.choice(bits(day_set))
                if normals[day_set] and len(bits(day_set)) > 2:
                    self.assertIsInstance(settle(Table(normals)), Choosy)
                    self.assertFalse(self.settled(normals))
        self.assertFalse(self.settled(some_normals(chance, 8)))

    def test_6_4_choices_that_hang_together_only_two_by_two(self):
        normals = list(range(8)) + [8] * 8
        normals[3], normals[6], normals[5] = 1, 2, 4
        self.assertFalse(self.settled(normals))
        normals[5] = 1
        normals[7] = 1
        self.assertTrue(self.settled(normals))

    def test_example_of_part_6(self):
        answer = settle(Table(PLAIN))
        self.assertEqual((answer.many, answer.few), (7, 3))
        self.assertEqual(Table.of_order(Order((1, 1, 1, 0))).normals, (0, 1, 2, 3, 4, 5, 6, 7) + (8,) * 8)

    def test_0_6_results_keep_their_arguments(self):
        order = Order([0, 1])
        self.assertEqual(vars(Settled(order)), {"order": order})
        self.assertEqual(vars(Choosy(7, 3)), {"many": 7, "few": 3})


class Judging(Case):
    def test_6_5_settled(self):
        table = Table.of_order(Order((1, 1, 1, 0)))
        for order in (None, "order", (1, 1, 1, 0), table, Order([0, 1]), Order([0] * 8), Order([0] * 16)):
            self.assertEqual(settle_fault(table, Settled(order)), "order")
        for layers in ((0, 0, 0, 0), (1, 1, 2, 0), (0, 1, 1, 0), (1, 1, 1, 2 - 2)):
            word = None if layers == (1, 1, 1, 0) else "normal"
            self.assertEqual(settle_fault(table, Settled(Order(layers))), word)
        self.assertIsNone(settle_fault(table, Settled(Order((9, 9, 9, 0)))))
        for layers in ORDERS[4]:
            self.assertEqual(settle_fault(Table(PLAIN), Settled(Order(layers))), "normal")

    def test_6_5_choosy(self):
        table = Table(PLAIN)
        for many, few, word in ((7, 3, None), (7, 0, "few"), (0, 0, "few"), (3, 7, "few"), (16, 3, "few"),
                                (31, 3, "few"),
                                (7, 16, "few"), (-1, 3, "few"), (7, -1, "few"), (True, 1, "few"), (7, True, "few"),
                                (None, 3, "few"), (7, None, "few"), (6, 3, "few"), (15, 7, "shared"), (15, 3, "shared"),
                                (3, 2, "shared"), (7, 7, "same"), (7, 1, "same"), (15, 8, "same"), (15, 9, "same"),
                                (3, 1, "same")):
            self.assertEqual(settle_fault(table, Choosy(many, few)), word, (many, few))

    def test_6_5_against_the_words_of_the_text(self):
        chance = seeded(65)
        words = set()
        for _ in range(400):
            days = chance.choice((2, 4))
            normals = plain_table(some_layers(chance, days)) if chance.random() < 0.4 else some_normals(chance, days)
            for _ in range(20):
                if chance.random() < 0.3:
                    answer = Settled(Order(some_layers(chance, chance.choice((2, days, days)))))
                else:
                    many = chance.randint(-1, 2 ** days)
                    answer = Choosy(many, chance.choice((chance.randint(-1, 2 ** days), many & chance.randint(0, 15))))
                word = plain_word(normals, answer)
                words.add((type(answer).__name__, word))
                self.assertEqual(settle_fault(Table(normals), answer), word)
        self.assertEqual(words, {("Settled", None), ("Settled", "order"), ("Settled", "normal")} | {
            ("Choosy", word) for word in (None, "few", "shared", "same")})

    def test_6_5_all_pairs_of_some_tables(self):
        for normals in (PLAIN, plain_table((0, 1, 2, 0)), (0, 1, 2, 2)):
            days = range(-1, len(normals) + 1)
            for many, few in itertools.product(days, days):
                answer = Choosy(many, few)
                self.assertEqual(settle_fault(Table(normals), answer), plain_word(normals, answer))
