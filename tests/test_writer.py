"""Writing sentences: point 1.10."""

from tests.helpers import FOUR, ONE, STRANGE, THREE, TWO, Case, seeded
from usualdays.errors import OtherDays
from usualdays.marks import Marks
from usualdays.reader import read_sentence
from usualdays.sentences import names_in
from usualdays.writer import sentence_of

LONG = Marks(("abcdefgh", "bcdefghi", "cdefghij", "defghijk"))


def nested(text):
    """The most words "not" and parentheses that something stands within, read as point 1.9 counts."""
    around = []
    most = 0
    for word in text.replace("(", " ( ").replace(")", " ) ").split():
        if word in ("not", "("):
            most = max(most, len(around))
            around.append(word)
            continue
        most = max(most, len(around))
        if word == ")":
            while around.pop() != "(":
                pass
        if word not in ("and", "or"):
            while around and around[-1] == "not":
                around.pop()
    return most


class Writing(Case):
    def right(self, marks, days):
        sentence = sentence_of(marks, days)
        self.assertEqual(sentence.true_days(marks), days)
        self.assertEqual(read_sentence(sentence.text()), sentence)
        self.assertTrue(set(names_in(sentence)) <= set(marks.names))

    def test_1_10_all_day_sets_of_up_to_three_marks(self):
        for marks in (ONE, TWO, THREE):
            for days in range(marks.all_days + 1):
                self.right(marks, days)

    def test_1_10_day_sets_of_four_marks(self):
        chance = seeded(110)
        for days in [0, 65535, 27030, 38505, 1, 32768] + [chance.randint(0, 65535) for _ in range(3000)]:
            self.right(FOUR, days)
            self.right(LONG, days)

    def test_1_10_not_deep(self):
        for days in range(0, 65536, 7):
            text = sentence_of(LONG, days).text()
            self.assertLessEqual(nested(text), 6, text)

    def test_1_10_other_days(self):
        for marks in (ONE, TWO, FOUR):
            for thing in STRANGE + (marks.all_days + 1, [1]):
                self.refuses(OtherDays(), sentence_of, marks, thing)
