"""Marks: points 0.1, 1.3 and 1.4."""

from tests.helpers import FOUR, ONE, STRANGE, TWO, Case
from usualdays.errors import BadMarks, NoDay, NoMark
from usualdays.marks import Marks


class Making(Case):
    def test_1_3_attributes(self):
        for names, days, all_days in (
                (["a"], 2, 3), (["a", "b"], 4, 15), (["rain", "wind", "sun"], 8, 255),
                (["abcdefgh", "b", "c", "z"], 16, 65535)):
            made = Marks(names)
            self.assertEqual(made.names, tuple(names))
            self.assertEqual((made.count, made.days, made.all_days), (len(names), days, all_days))

    def test_1_3_count(self):
        for names in ([], (), ["a", "b", "c", "d", "e"], ("a",) * 5, "ab", None, 3, True, {"a": 1}, [1] * 5):
            self.refuses(BadMarks("count", None), Marks, names)

    def test_1_3_name(self):
        for name in ("", "abcdefghi", "A", "a1", "a b", " a", "a-", "_", 1, None, True, ["a"], ("a",), b"a"):
            self.refuses(BadMarks("name", 0), Marks, [name])
            self.refuses(BadMarks("name", 1), Marks, ("b", name))

    def test_1_3_kept(self):
        for word in ("and", "any", "marks", "need", "never", "not", "or", "usually", "where"):
            self.refuses(BadMarks("kept", 0), Marks, [word])
            self.refuses(BadMarks("kept", 2), Marks, ["a", "b", word])
        self.assertEqual(Marks(("ands", "an", "wher", "nots")).names, ("ands", "an", "wher", "nots"))

    def test_1_3_twice(self):
        self.refuses(BadMarks("twice", 1), Marks, ["a", "a"])
        self.refuses(BadMarks("twice", 3), Marks, ("a", "b", "c", "a"))

    def test_0_7_the_first_fault_of_the_first_wrong_name(self):
        self.refuses(BadMarks("twice", 1), Marks, ["a", "a", "A"])
        self.refuses(BadMarks("name", 1), Marks, ["a", 3, "a", "not"])
        self.refuses(BadMarks("kept", 0), Marks, ["or", "or", "X"])
        self.refuses(BadMarks("name", 0), Marks, ["x" * 9, "x" * 9])
        self.refuses(BadMarks("count", None), Marks, ["A"] * 5)

    def test_0_5_a_later_change_has_no_effect(self):
        names = ["a", "b"]
        made = Marks(names)
        names[0] = "c"
        names.append("d")
        self.assertEqual(made.names, ("a", "b"))
        self.assertEqual(names, ["c", "b", "d"])

    def test_0_5_equality(self):
        self.assertTrue(Marks(["a", "b"]) == TWO)
        self.assertFalse(Marks(["a", "b"]) != TWO)
        self.differs(TWO, ONE, Marks(["b", "a"]), Marks(["a", "c"]), ("a", "b"), "ab", None, 2)


class Days(Case):
    def test_0_1_numbers_of_days(self):
        self.assertEqual(FOUR.day(), 0)
        self.assertEqual([FOUR.day(name) for name in "abcd"], [1, 2, 4, 8])
        self.assertEqual(FOUR.day("a", "b", "c", "d"), 15)
        self.assertEqual(FOUR.day("d", "b"), 10)

    def test_1_4_a_name_twice(self):
        self.assertEqual(FOUR.day("b", "b"), 2)
        self.assertEqual(FOUR.day(*["c"] * 1000), 4)

    def test_1_4_no_mark(self):
        self.refuses(NoMark("x"), TWO.day, "a", "x", "y")
        self.refuses(NoMark("and"), TWO.day, "and")
        for thing in STRANGE + (0, 1, "A", "ab", ["a"], ("a",)):
            self.refuses(NoMark(thing), TWO.day, thing)
            self.refuses(NoMark(thing), TWO.day, "b", thing, "q")
            self.refuses(NoMark(thing), TWO.days_with, thing)
        self.refuses(NoMark("c"), TWO.days_with, "c")

    def test_0_7_the_thing_is_held_as_it_was_passed(self):
        thing = ["a"]
        with self.assertRaises(NoMark) as caught:
            TWO.days_with(thing)
        self.assertIs(caught.exception.name, thing)

    def test_1_4_names_and_labels(self):
        self.assertEqual(FOUR.names_on(0), ())
        self.assertEqual(FOUR.names_on(15), ("a", "b", "c", "d"))
        self.assertEqual(Marks(("z", "y")).names_on(3), ("z", "y"))
        self.assertEqual([TWO.label(day) for day in range(4)], ["--", "+-", "-+", "++"])
        self.assertEqual([ONE.label(0), ONE.label(1)], ["-", "+"])
        for day in range(16):
            self.assertEqual(FOUR.day(*FOUR.names_on(day)), day)
            self.assertEqual(FOUR.label(day), "".join("+" if n in FOUR.names_on(day) else "-" for n in "abcd"))

    def test_1_4_no_day(self):
        for marks in (ONE, FOUR):
            for thing in STRANGE + (marks.days,):
                self.refuses(NoDay(thing), marks.names_on, thing)
                self.refuses(NoDay(thing), marks.label, thing)

    def test_1_4_days_with(self):
        for place, name in enumerate("abcd"):
            days = [day for day in range(16) if day // 2 ** place % 2]
            self.assertEqual(FOUR.days_with(name), sum(2 ** day for day in days))
        self.assertEqual(ONE.days_with("a"), 2)
