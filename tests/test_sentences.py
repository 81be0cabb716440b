"""Sentences: points 1.5, 1.6 and 1.7."""

from tests.helpers import FOUR, ONE, TWO, Case
from usualdays.errors import BadMarks, BadParts, NoMark
from usualdays.marks import Marks
from usualdays.sentences import Always, Both, Either, Mark, Never, Not, Sentence, names_in

A, B, C, D = Mark("a"), Mark("b"), Mark("c"), Mark("d")


def deep(levels):
    sentence = A
    for level in range(levels // 2):
        sentence = Not(Both((sentence, B)))
    return sentence


class Making(Case):
    def test_1_5_attributes(self):
        self.assertEqual(A.name, "a")
        self.assertIs(Not(A).part, A)
        for kind in (Both, Either):
            self.assertEqual(kind([A, B]).parts, (A, B))
            self.assertIs(type(kind([A, B]).parts), tuple)
        for sentence in (A, Not(A), Both((A, B)), Either((A, B)), Always(), Never()):
            self.assertIsInstance(sentence, Sentence)

    def test_1_5_marks_of_a_wrong_name(self):
        for name in ("", "abcdefghi", "A", "a b", 1, None, True, ["a"], A):
            self.refuses(BadMarks("name", None), Mark, name)
        for word in ("and", "any", "marks", "need", "never", "not", "or", "usually", "where"):
            self.refuses(BadMarks("kept", None), Mark, word)
        self.assertEqual(Mark("abcdefgh").name, "abcdefgh")

    def test_1_5_parts(self):
        for thing in ("a", None, True, 0, (A,), [A, B]):
            self.refuses(BadParts(), Not, thing)
        for kind in (Both, Either):
            for thing in ((), [], (A,), [A], (A, "b"), ["a", B], (A, B, None), A, None, "ab", True, {A.name: B}):
                self.refuses(BadParts(), kind, thing)
            self.assertEqual(len(kind([A] * 1000).parts), 1000)

    def test_0_5_a_later_change_has_no_effect(self):
        for kind in (Both, Either):
            parts = [A, B]
            made = kind(parts)
            parts[0] = C
            parts.append(D)
            self.assertEqual(made.parts, (A, B))

    def test_1_5_equality(self):
        for make in (lambda: Mark("a"), lambda: Not(Mark("a")), lambda: Both([Mark("a"), Mark("b")]),
                     lambda: Either((Mark("a"), Mark("b"))), Always, Never):
            self.assertTrue(make() == make())
            self.assertFalse(make() != make())
        self.differs(A, B, Not(A), "a", None, Always(), Never())
        self.differs(Not(A), Not(B), A, Not(Not(A)))
        self.differs(Both((A, B)), Both((B, A)), Both((A, B, B)), Either((A, B)), (A, B), Both((A, C)))
        self.differs(Either((A, B)), Either((B, A)), Either((A, B, B)), Both((A, B)), (A, B))
        self.differs(Both((Both((A, B)), C)), Both((A, Both((B, C)))), Both((A, B, C)))
        self.differs(Always(), Never(), Not(Never()), 1, True, None, Sentence())
        self.differs(Never(), Always(), Not(Always()), 0, False, None)


class Signs(Case):
    def test_1_6_signs_build_sentences(self):
        self.assertEqual(A & B, Both((A, B)))
        self.assertEqual(A | B, Either((A, B)))
        self.assertEqual(~A, Not(A))

    def test_1_6_nothing_is_merged(self):
        self.assertEqual(A & B & C, Both((Both((A, B)), C)))
        self.assertEqual(A | (B | C), Either((A, Either((B, C)))))
        self.assertEqual(~~A, Not(Not(A)))
        self.assertEqual(A & A, Both((A, A)))
        self.assertEqual(Always() | Never(), Either((Always(), Never())))
        self.assertEqual(~Always(), Not(Always()))

    def test_1_6_for_every_kind(self):
        for sentence in (A, Not(A), Both((A, B)), Either((A, B)), Always(), Never()):
            self.assertEqual(sentence & C, Both((sentence, C)))
            self.assertEqual(sentence | C, Either((sentence, C)))
            self.assertEqual(~sentence, Not(sentence))


class TrueDays(Case):
    def test_1_5_true_days(self):
        for sentence, wanted in (
                (A, 10), (B, 12), (~A, 5), (A & B, 8), (A | B, 14), (Always(), 15), (Never(), 0),
                (~(A & B), 7), (A & ~B, 2), (~Always(), 0), (~Never(), 15), (A & ~A, 0), (A | ~A, 15),
                (Both((A, B, Never())), 0), (Either((A, B, Always())), 15), (Both((Always(), A)), 10)):
            self.assertEqual(sentence.true_days(TWO), wanted, sentence.text())

    def test_1_5_over_other_marks(self):
        self.assertEqual(Always().true_days(ONE), 3)
        self.assertEqual((~A).true_days(FOUR), 21845)
        self.assertEqual((A & B & C & D).true_days(FOUR), 32768)
        self.assertEqual(A.true_days(Marks(("b", "a"))), 12)

    def test_1_6_the_first_mark_that_is_not_there(self):
        X, Y = Mark("x"), Mark("y")
        for sentence in (X, ~X, A & X, X & Y, X | Y, A | ~(X & Y), Both((Never(), X, Y)),
                         Either((Always(), X, Y)), Both((Not(Either((A, X))), Y))):
            self.refuses(NoMark("x"), sentence.true_days, TWO)
        self.refuses(NoMark("b"), (A & B).true_days, ONE)

    def test_1_5_deep_and_long(self):
        self.assertEqual(deep(40).true_days(TWO), deep(40).true_days(TWO))
        self.assertEqual(Either([A] * 999 + [B]).true_days(TWO), 14)
        self.assertEqual(Both([A] * 999 + [B]).true_days(TWO), 8)


class Texts(Case):
    def test_1_7_texts(self):
        for sentence, wanted in (
                (A, "a"), (Always(), "any"), (Never(), "never"), (~A, "not a"), (~~A, "not not a"),
                (Both((A, B, C)), "a and b and c"), (Either((A, B, C)), "a or b or c"),
                (~Always(), "not any"), (Both((Always(), Never())), "any and never")):
            self.assertEqual(sentence.text(), wanted)

    def test_1_7_parentheses(self):
        for sentence, wanted in (
                (~(A & B), "not (a and b)"), (~(A | B), "not (a or b)"),
                ((A & B) & C, "(a and b) and c"), (A & (B | C), "a and (b or c)"),
                ((A | B) | C, "(a or b) or c"), (A & B | C & D, "a and b or c and d"),
                (~A & ~B, "not a and not b"), (~A | ~(B & C), "not a or not (b and c)"),
                (~(~A), "not not a"), ((~(A & B)) & C, "not (a and b) and c"),
                ((A | B & C) & D, "(a or b and c) and d"), (A | (B | C) & D, "a or (b or c) and d")):
            self.assertEqual(sentence.text(), wanted)

    def test_1_7_depth_and_length(self):
        self.assertEqual(deep(4).text(), "not (not (a and b) and b)")
        self.assertTrue(deep(40).text().startswith("not (not ("))
        self.assertEqual(Both([A] * 1000).text(), "a" + " and a" * 999)


class Names(Case):
    def test_1_6_names(self):
        for sentence, wanted in (
                (A, ("a",)), (Always(), ()), (Never(), ()), (~B, ("b",)), (B & A, ("b", "a")),
                (Either((C, A & C, ~B, A)), ("c", "a", "b")), (~(A & B) | C & ~~D, ("a", "b", "c", "d")),
                (Both((Always(), Never())), ())):
            self.assertEqual(names_in(sentence), wanted)

    def test_1_6_many_names(self):
        letters = "abcdefghijklmnopqrst"
        words = [x + y + "q" for x in letters for y in letters][:400]
        self.assertEqual(names_in(Both([Mark(word) for word in words + words])), tuple(words))
        self.assertEqual(names_in(deep(40)), ("a", "b"))
