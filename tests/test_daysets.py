"""Day sets: points 0.1 and 1.2."""

from tests.helpers import Case
from usualdays.daysets import days_in, set_of, size, within


class DaySets(Case):
    def test_0_1_the_example_of_the_text(self):
        self.assertEqual(days_in(11), (0, 1, 3))
        self.assertEqual(set_of([0, 1, 3]), 11)

    def test_1_2_all_day_sets_of_three_marks(self):
        for day_set in range(256):
            days = days_in(day_set)
            self.assertIs(type(days), tuple)
            self.assertEqual(days, tuple(day for day in range(8) if day_set // 2 ** day % 2 == 1))
            self.assertEqual(set_of(days), day_set)
            self.assertEqual(size(day_set), len(days))

    def test_1_2_empty_and_full(self):
        self.assertEqual((days_in(0), size(0), set_of([]), set_of(())), ((), 0, 0, 0))
        self.assertEqual((days_in(65535), size(65535)), (tuple(range(16)), 16))

    def test_1_2_duplicates_and_other_sequences(self):
        self.assertEqual(set_of([3, 0, 3, 1, 0]), 11)
        self.assertEqual(set_of((15, 15)), 32768)
        self.assertEqual(set_of([2] * 1000), 4)

    def test_1_2_within(self):
        for one in range(16):
            for other in range(16):
                wanted = set(days_in(one)) <= set(days_in(other))
                self.assertIs(within(one, other), wanted, (one, other))

    def test_0_5_what_is_passed_in_stays(self):
        days = [1, 0, 1]
        set_of(days)
        self.assertEqual(days, [1, 0, 1])
