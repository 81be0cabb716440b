"""Lots that meet: point 10.1."""

import itertools

from tests.helpers import Case, plain_lots, seeded
from usualdays.meeting import least_meeting


def plain_meeting(lots, many=12):
    """By the words of point 10.1, out of all lots of so many numbers."""
    meeting = [set(lot) for lot in plain_lots(many) if all(set(lot) & set(other) for other in lots)]
    least = [lot for lot in meeting if not any(other < lot for other in meeting)]
    return tuple(tuple(sorted(lot)) for lot in least)


def sorted_lots(lots):
    return tuple(sorted(set(lots), key=lambda lot: (len(lot), lot)))


def least_of(lots):
    return sorted_lots(lot for lot in lots if not any(set(other) < set(lot) for other in lots))


def some_lots(chance, many):
    return [tuple(sorted(chance.sample(range(many), chance.randint(1, min(many, 4)))))
            for _ in range(chance.randint(1, 8))]


class Meeting(Case):
    def test_10_1_all_small_ones(self):
        lots = plain_lots(3)
        for count in range(4):
            for chosen in itertools.product(lots, repeat=count):
                self.assertEqual(least_meeting(chosen), plain_meeting(chosen, 3))

    def test_10_1_drawn(self):
        chance = seeded(101)
        for _ in range(200):
            many = chance.randint(1, 6)
            lots = some_lots(chance, many)
            found = least_meeting(lots)
            self.assertEqual(found, plain_meeting(lots, many))
            self.assertEqual(least_meeting(found), least_of(lots))

    def test_10_1_up_to_eleven(self):
        chance = seeded(1011)
        for _ in range(8):
            lots = [tuple(chance.choice((11, 10, 9)) if number == 7 else number for number in lot)
                    for lot in some_lots(chance, 8)]
            lots = [tuple(sorted(set(lot))) for lot in lots] + [(0, 11)]
            found = least_meeting(lots)
            self.assertEqual(found, sorted_lots(found))
            for lot in found:
                self.assertTrue(all(set(lot) & set(other) for other in lots))
                for number in lot:
                    self.assertFalse(all(set(lot) - {number} & set(other) for other in lots)
                                     and all((set(lot) - {number}) & set(other) for other in lots))
            self.assertEqual(least_meeting(found), least_of(lots))
        self.assertEqual(least_meeting([(3, 11), (5, 11)]), ((11,), (3, 5)))

    def test_10_1_edges(self):
        self.assertEqual(least_meeting([]), ((),))
        self.assertEqual(least_meeting(()), ((),))
        for lots in ([()], [(), (1, 2)], ((1,), ()), [(0, 3), (), ()]):
            self.assertEqual(least_meeting(lots), ())
        self.assertEqual(least_meeting(least_meeting([])), ())
        self.assertEqual(least_meeting(least_meeting([(), (1, 2)])), ((),))
        self.assertEqual(least_meeting([(1, 2)] * 5), ((1,), (2,)))
        self.assertEqual(least_meeting([[4, 7], (4,), [4, 7]]), ((4,),))
        self.assertEqual(least_meeting([(2, 9), (0, 9), (0, 2)]), ((0, 2), (0, 9), (2, 9)))
        self.assertEqual(least_meeting([(number,) for number in range(12)]), (tuple(range(12)),))
        self.assertEqual(least_meeting([tuple(range(12))]), tuple((number,) for number in range(12)))

    def test_10_1_a_thousand_lots(self):
        six = list(itertools.combinations(range(12), 6))
        lots = six + six[:76]
        self.assertEqual(len(lots), 1000)
        found = least_meeting(lots)
        self.assertEqual(found, tuple(itertools.combinations(range(12), 7)))
        self.assertEqual(least_meeting(list(reversed(lots))), found)
        self.assertEqual(least_meeting([(0, 1)] * 1000), ((0,), (1,)))

    def test_0_5_what_was_passed_in(self):
        lots = [[0, 1], [1, 2]]
        self.assertEqual(least_meeting(lots), ((1,), (0, 2)))
        self.assertEqual(lots, [[0, 1], [1, 2]])
        self.assertTrue(all(type(lot) is tuple for lot in least_meeting(lots)))
