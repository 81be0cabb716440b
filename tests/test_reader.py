"""Reading sentences: points 1.8 and 1.9."""

from tests.helpers import Case, seeded
from usualdays.errors import BadSentence
from usualdays.reader import read_sentence
from usualdays.sentences import Always, Both, Either, Mark, Never, Not

A, B, C, D = Mark("a"), Mark("b"), Mark("c"), Mark("d")


def some_sentence(chance, depth):
    kind = chance.randint(0, 5) if depth else chance.randint(3, 5)
    if kind == 0:
        return Not(some_sentence(chance, depth - 1))
    if kind in (1, 2):
        parts = [some_sentence(chance, depth - 1) for _ in range(chance.randint(2, 3))]
        return Both(parts) if kind == 1 else Either(parts)
    return (Always(), Never(), Mark(chance.choice(("a", "bb", "abcdefgh"))))[kind - 3]


class Reading(Case):
    def test_1_8_texts(self):
        for text, wanted in (
                ("a", A), ("any", Always()), ("never", Never()), ("not a", Not(A)), ("not not a", Not(Not(A))),
                ("a and b", Both((A, B))), ("a and b and c", Both((A, B, C))), ("a or b or c", Either((A, B, C))),
                ("a or b and c", Either((A, Both((B, C))))), ("a and b or c", Either((Both((A, B)), C))),
                ("not a and b", Both((Not(A), B))), ("not a or b", Either((Not(A), B))),
                ("not (a or b)", Not(Either((A, B)))), ("(a and b) and c", Both((Both((A, B)), C))),
                ("a and (b and c)", Both((A, Both((B, C))))), ("(a or b) or c", Either((Either((A, B)), C))),
                ("a and not not b or never", Either((Both((A, Not(Not(B)))), Never()))),
                ("abcdefgh", Mark("abcdefgh")), ("az or z", Either((Mark("az"), Mark("z"))))):
            self.assertEqual(read_sentence(text), wanted, text)

    def test_1_8_parentheses_alone_say_nothing(self):
        for text in ("(a)", "((a))", "( a )", "(((a)))"):
            self.assertEqual(read_sentence(text), A)
        self.assertEqual(read_sentence("((a and b))"), Both((A, B)))
        self.assertEqual(read_sentence("(a) and (b)"), Both((A, B)))

    def test_1_8_spaces(self):
        for text in ("a and(b or c)", "  a   and ( b or c )  ", "a and (b or c)", "(a)and(b or c)"):
            self.assertEqual(read_sentence(text), Both((A, Either((B, C)))), text)
        self.assertEqual(read_sentence("not(a)"), Not(A))
        self.assertEqual(read_sentence("nota"), Mark("nota"))

    def test_1_8_reads_back(self):
        chance = seeded(18)
        for _ in range(2000):
            sentence = some_sentence(chance, chance.randint(0, 4))
            if len(sentence.text()) <= 1200:
                self.assertEqual(read_sentence(sentence.text()), sentence, sentence.text())


class Refusing(Case):
    def refused(self, what, at, text):
        self.refuses(BadSentence(what, at), read_sentence, text)

    def test_1_9_text(self):
        for thing in (None, True, 0, ["a"], ("a",), b"a", A):
            self.refused("text", None, thing)

    def test_1_9_long(self):
        self.assertEqual(read_sentence("a" + " " * 1199), A)
        self.assertEqual(read_sentence("a or " * 239 + "a    "), Either([A] * 240))
        self.refused("long", None, "a" + " " * 1200)
        self.refused("long", None, "%" * 1201)

    def test_1_9_character(self):
        for text, at in (("a\tand b", 1), ("a and B", 6), ("a1", 1), ("\n", 0), ("not a-b where", 5),
                         ("where & b", 6), (") A", 2), ("a and b.", 7), ("~", 0)):
            self.refused("character", at, text)

    def test_1_9_word(self):
        for text, at in (("where", 0), ("a and marks", 6), ("need not", 0), ("usually", 0), ("abcdefghi", 0),
                         ("a b  abcdefghij", 5), (") ( where", 4), ("(marks", 1), ("not  need and where", 5)):
            self.refused("word", at, text)

    def test_1_9_operand(self):
        for text, at in (("", 0), ("   ", 3), ("and", 0), ("or a", 0), (")", 0), ("()", 1), ("( )", 2),
                         ("a and", 5), ("a and  ", 7), ("a and and b", 6), ("a or or", 5), ("not", 3), ("not )", 4),
                         ("not and", 4), ("(", 1), ("a and (b or", 11), ("a or )", 5), ("a and or b", 6)):
            self.refused("operand", at, text)

    def test_1_9_operator(self):
        for text, at in (("a b", 2), ("a not b", 2), ("a (b)", 2), ("a any", 2), ("(a", 2), ("(a  ", 4),
                         ("a)", 1), ("(a))", 3), ("(a b)", 3), ("(a) b", 4), ("any never", 4), ("(a and b", 8),
                         ("not a b", 6), ("a and b )", 8), ("a and b c", 8), ("((a)", 4), ("a(", 1)):
            self.refused("operator", at, text)

    def test_1_9_deep(self):
        for many in range(13):
            opened = "(" * many + "not " * (12 - many)
            closed = ")" * many
            read_sentence(opened + "a" + closed)
            read_sentence(opened + "a" + closed + " and " + opened + "b" + closed)
            self.refused("deep", len(opened), opened + "(a)" + closed)
            self.refused("deep", len(opened), opened + "not a" + closed)
            self.refused("deep", len(opened), opened + "(" * 5)
        self.refused("deep", 66, "x and " * 9 + "(" * 13)
        self.refused("deep", 23, "(" * 12 + "a and b or not c" + ")" * 12)

    def test_1_9_what_is_complete_counts_no_more(self):
        self.assertEqual(read_sentence("(" * 11 + "not a and (b)" + ")" * 11), Both((Not(A), B)))
        self.assertEqual(read_sentence("not " * 11 + "(a) and " + "not " * 12 + "b").parts[1].text(),
                         "not " * 12 + "b")

    def test_1_9_deep_only_where_it_can_stand(self):
        self.refused("operator", 14, "(" * 12 + "a (b)")
        self.refused("operator", 14, "(" * 12 + "a not b")
        self.refused("operand", 12, "(" * 12 + ")")

    def test_0_7_order_of_the_words(self):
        self.refused("character", 8, "a where A")
        self.refused("word", 6, ") and where (")
        self.refused("operand", 0, ") a b" + "(" * 20)
        self.refused("operator", 2, "a b and")
        self.refused("deep", 12, "(" * 13 + ")")

    def test_example(self):
        self.refused("operand", 11, "a and (b or")
