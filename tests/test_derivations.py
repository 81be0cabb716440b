"""Derivations: points 4.14 to 4.17."""

from tests.helpers import (FOUR, ONE, STRANGE, THREE, TWO, Case, all_sayings, bits, is_sharp, keeping, mixed_books,
                           plain_tells, plain_yields, seeded, some_book, some_saying)
from usualdays.books import Book
from usualdays.derivations import Step, derivation, derivation_fault, resting
from usualdays.errors import NeedNot, OtherDays
from usualdays.sayings import Saying

B = Book(TWO, [Saying(15, 5), Saying(10, 12)])
FOREIGN = (Saying(16, 1), Saying(1, 16), Saying(65535, 3, False))
LENGTHS = {"given": 1, "itself": 0, "weaker": 1, "joined": 2, "cautious": 2}


def plain_word(book, steps, number):
    """The word for a step whose earlier ones are right, by the words of the points 4.14 and 4.15."""
    step = steps[number]
    if step.rule not in LENGTHS:
        return "rule"
    if len(step.lines) != LENGTHS[step.rule] or any(type(line) is not int for line in step.lines):
        return "lines"
    if step.rule == "given":
        if step.lines[0] not in range(len(book)) or not book[step.lines[0]].usual:
            return "lines"
    elif any(line not in range(number) for line in step.lines):
        return "lines"
    if not step.saying.usual:
        return "kind"
    where, confirm = set(bits(step.saying.where)), set(bits(step.saying.confirm))
    if step.rule == "itself":
        return None if where == confirm else "saying"
    sources = [book[line] if step.rule == "given" else steps[line].saying for line in step.lines]
    wheres = [set(bits(saying.where)) for saying in sources]
    confirms = [set(bits(saying.confirm)) for saying in sources]
    if step.rule == "given":
        right = where == wheres[0] and confirm == confirms[0]
    elif step.rule == "weaker":
        right = where == wheres[0] and confirms[0] <= confirm
    elif step.rule == "joined":
        broken = (wheres[0] - confirms[0]) | (wheres[1] - confirms[1])
        right = where == wheres[0] | wheres[1] and where - confirm == broken
    else:
        right = wheres[0] == wheres[1] and where == confirms[0] and confirm == confirms[0] & confirms[1]
    return None if right else "saying"


def plain_fault(book, steps):
    for number in range(len(steps)):
        word = plain_word(book, steps, number)
        if word is not None:
            return (number, word)
    return None


def some_step(chance, book, steps):
    """A right step behind others, or None where the chosen rule gives none."""
    rule = chance.choice(("given", "given", "itself", "weaker", "joined", "cautious", "cautious"))
    marks = book.marks
    if rule == "itself":
        where = chance.randint(1, marks.all_days)
        return Step(rule, (), Saying(where, where | chance.randint(0, marks.all_days)))
    if rule == "given":
        usual = [number for number, saying in enumerate(book) if saying.usual]
        if not usual:
            return None
        number = chance.choice(usual)
        return Step(rule, (number,), Saying(book[number].where, book[number].confirm))
    if not steps:
        return None
    i, j = chance.randrange(len(steps)), chance.randrange(len(steps))
    one, other = steps[i].saying, steps[j].saying
    if rule == "weaker":
        return Step(rule, (i,), Saying(one.where, one.confirm | chance.randint(0, marks.all_days)))
    if rule == "joined":
        where = one.where | other.where
        return Step(rule, (i, j), Saying(where, where & ~one.broken & ~other.broken))
    if one.where != other.where or not one.confirm:
        return None
    return Step(rule, (i, j), Saying(one.confirm, one.confirm & other.confirm))


def some_derivation(chance, book, many):
    steps = []
    for _ in range(many):
        step = some_step(chance, book, steps)
        if step is not None:
            steps.append(step)
    return steps


def changed(chance, step):
    """A step with one thing changed, perhaps to what is right, too."""
    what = chance.randrange(4)
    if what == 0:
        return Step(chance.choice(list(LENGTHS) + ["", "Given", "given "]), step.lines, step.saying)
    if what == 1:
        lines = [chance.randint(-2, 12) for _ in range(chance.choice((len(step.lines), chance.randint(0, 3))))]
        return Step(step.rule, tuple(lines), step.saying)
    saying = step.saying
    if what == 2:
        return Step(step.rule, step.lines, Saying(saying.where, saying.then, not saying.usual))
    return Step(step.rule, step.lines, Saying(saying.where ^ 2 ** chance.randint(0, 3) or 1, saying.then ^ 1))


class Judging(Case):
    def judged(self, wanted, *steps, book=B):
        self.assertEqual(derivation_fault(book, steps), wanted)
        self.assertEqual(derivation_fault(book, list(steps)), wanted)

    def test_4_14_each_rule(self):
        given, other = Step("given", (0,), Saying(15, 5)), Step("given", (1,), Saying(10, 8))
        self.judged(None, given, other)
        self.judged(None, given, Step("joined", (0, 0), Saying(15, 5)))
        self.judged(None, given, other, Step("joined", (0, 1), Saying(15, 5)), Step("joined", (1, 0), Saying(15, 5)))
        self.judged(None, Step("itself", (), Saying(6, 6)), Step("itself", (), Saying(6, 15)))
        self.judged(None, given, Step("weaker", (0,), Saying(15, 13)), Step("weaker", (1,), Saying(15, 13)))
        self.judged(None, given, Step("cautious", (0, 0), Saying(5, 5)))
        self.judged(None, given, Step("weaker", (0,), Saying(15, 13)), Step("cautious", (1, 0), Saying(13, 5)))

    def test_4_14_then_beyond_where_means_nothing(self):
        book = Book(TWO, [Saying(3, 13)])
        self.judged(None, Step("given", (0,), Saying(3, 1)), Step("weaker", (0,), Saying(3, 9)), book=book)
        self.judged(None, Step("given", (0,), Saying(3, 5)), Step("joined", (0, 0), Saying(3, 13)), book=book)
        self.judged(None, Step("given", (0,), Saying(3, 5)), Step("cautious", (0, 0), Saying(1, 15)), book=book)

    def test_4_15_an_empty_derivation_is_right(self):
        for book in (B, Book(TWO, []), Book(TWO, [Saying(4, 0)])):
            self.judged(None, book=book)

    def test_4_15_rule(self):
        for rule in ("", "Given", "given ", "sharper", "none"):
            self.judged((0, "rule"), Step(rule, (7, -1), Saying(15, 0, False)))

    def test_4_15_lines(self):
        given = Step("given", (0,), Saying(15, 5))
        wrong = Saying(15, 0, False)
        for rule, length in LENGTHS.items():
            for many in range(4):
                if many != length:
                    self.judged((1, "lines"), given, Step(rule, (0,) * many, wrong))
        for line in (1, 2, -1, True, False, None, "0", 10 ** 20):
            self.judged((1, "lines"), given, Step("weaker", (line,), wrong))
            for rule in ("joined", "cautious"):
                self.judged((1, "lines"), given, Step(rule, (line, 0), wrong))
                self.judged((1, "lines"), given, Step(rule, (0, line), wrong))
        for line in (2, -1, True, None, "0"):
            self.judged((0, "lines"), Step("given", (line,), wrong))
        self.judged((0, "lines"), Step("weaker", (0,), Saying(15, 15)))
        for thing in STRANGE:
            self.judged((0, "lines"), Step("given", (thing,), Saying(15, 5)))

    def test_4_15_a_need_not_is_not_given(self):
        book = Book(TWO, [Saying(15, 5, False), Saying(10, 8)])
        self.judged((0, "lines"), Step("given", (0,), Saying(15, 5)), book=book)
        self.judged((0, "lines"), Step("given", (0,), Saying(15, 5, False)), book=book)
        self.judged(None, Step("given", (1,), Saying(10, 8)), book=book)

    def test_4_15_kind(self):
        given = Step("given", (0,), Saying(15, 5))
        for step in (Step("given", (0,), Saying(15, 5, False)), Step("itself", (), Saying(15, 1, False)),
                     Step("weaker", (0,), Saying(15, 7, False)), Step("joined", (0, 0), Saying(3, 1, False)),
                     Step("cautious", (0, 0), Saying(5, 5, False))):
            self.judged((1, "kind"), given, step)

    def test_4_15_saying(self):
        given = Step("given", (0,), Saying(15, 5))
        for rule, lines, sayings in (
                ("given", (0,), [(15, 4), (7, 5), (15, 7), (10, 8)]), ("itself", (), [(15, 7), (2, 0)]),
                ("weaker", (0,), [(7, 5), (15, 4), (15, 9), (15, 0), (31, 31)]),
                ("joined", (0, 0), [(15, 4), (15, 7), (7, 5)]), ("cautious", (0, 0), [(15, 5), (5, 4), (1, 1)])):
            for where, then in sayings:
                self.judged((1, "saying"), given, Step(rule, lines, Saying(where, then)))

    def test_4_15_cautious_with_other_where(self):
        steps = [Step("itself", (), Saying(3, 3)), Step("itself", (), Saying(7, 7))]
        self.judged((2, "saying"), *steps, Step("cautious", (0, 1), Saying(3, 3)))
        self.judged((2, "saying"), *steps, Step("cautious", (1, 0), Saying(7, 3)))

    def test_4_15_cautious_in_their_order(self):
        steps = [Step("given", (0,), Saying(15, 5)), Step("weaker", (0,), Saying(15, 7))]
        self.judged(None, *steps, Step("cautious", (1, 0), Saying(7, 5)))
        self.judged((2, "saying"), *steps, Step("cautious", (0, 1), Saying(7, 5)))
        self.judged(None, *steps, Step("cautious", (0, 1), Saying(5, 5)))

    def test_4_15_a_day_beyond_the_marks_is_no_fault(self):
        self.judged(None, Step("itself", (), Saying(65535, 65535)), Step("joined", (0, 0), Saying(65535, 65535)))

    def test_4_15_the_first_wrong_step(self):
        wrong = Step("itself", (), Saying(15, 7))
        given = Step("given", (0,), Saying(15, 5))
        self.judged((0, "saying"), wrong, Step("no", (), Saying(15, 7)))
        self.judged((1, "saying"), given, wrong, wrong)

    def test_4_15_against_the_words_of_the_text(self):
        chance = seeded(415)
        words = set()
        for _ in range(3000):
            marks = chance.choice((ONE, TWO))
            book = some_book(chance, marks, 4)
            steps = some_derivation(chance, book, 10)
            self.assertIsNone(derivation_fault(book, steps))
            if steps:
                place = chance.randrange(len(steps))
                steps[place] = changed(chance, steps[place])
            fault = plain_fault(book, steps)
            words.add(fault and fault[1])
            self.assertEqual(derivation_fault(book, steps), fault)
        self.assertEqual(words, {None, "rule", "lines", "kind", "saying"})

    def test_4_14_a_thousand_steps(self):
        steps = [Step("given", (0,), Saying(15, 5))] + [Step("weaker", (n,), Saying(15, 5)) for n in range(999)]
        self.judged(None, *steps)
        self.assertEqual(resting(steps), ((0,),) * 1000)
        steps[998] = Step("weaker", (998,), Saying(15, 5))
        self.judged((998, "lines"), *steps)

    def test_example_of_part_4(self):
        steps = [Step("given", (1,), Saying(10, 8)), Step("weaker", (1,), Saying(10, 8))]
        self.assertEqual(derivation_fault(B, steps), (1, "lines"))

    def test_0_6_results_keep_their_arguments(self):
        saying = Saying(3, 1)
        self.assertEqual(vars(Step("given", (0,), saying)), {"rule": "given", "lines": (0,), "saying": saying})


class Resting(Case):
    def test_4_16_each_rule(self):
        steps = [Step("given", (1,), Saying(10, 8)), Step("itself", (), Saying(15, 15)),
                 Step("given", (0,), Saying(15, 5)), Step("joined", (0, 2), Saying(15, 5)),
                 Step("weaker", (3,), Saying(15, 13)), Step("cautious", (4, 2), Saying(13, 5)),
                 Step("joined", (1, 0), Saying(15, 13)), Step("joined", (1, 1), Saying(15, 15))]
        self.assertIsNone(derivation_fault(B, steps))
        lots = ((1,), (), (0,), (0, 1), (0, 1), (0, 1), (1,), ())
        for given in (steps, tuple(steps)):
            self.assertEqual(resting(given), lots)
        self.assertEqual(resting([]), ())

    def test_4_16_lots_are_sharp(self):
        chance = seeded(416)
        for marks in (ONE, TWO, THREE, FOUR):
            for _ in range(150):
                book = some_book(chance, marks, 6, chance.choice((True, True, None)))
                steps = some_derivation(chance, book, 14)
                lots = resting(steps)
                self.assertIs(type(lots), tuple)
                self.assertEqual(len(lots), len(steps))
                for step, lot in zip(steps, lots):
                    self.assertIs(type(lot), tuple)
                    self.assertEqual(list(lot), sorted(set(lot)))
                    self.assertTrue(is_sharp(book, lot, step.saying))


class Deriving(Case):
    def derived(self, book, saying):
        steps = derivation(book, saying)
        if not plain_yields(book, saying):
            self.assertIsNone(steps)
            return False
        self.assertIs(type(steps), tuple)
        self.assertTrue(0 < len(steps) <= 40)
        for step in steps:
            self.assertIsInstance(step, Step)
            self.assertIs(type(step.lines), tuple)
        self.assertIsNone(derivation_fault(book, steps))
        self.assertIsNone(plain_fault(book, steps))
        last = steps[-1].saying
        self.assertEqual((last.where, last.confirm), (saying.where, saying.confirm))
        self.assertTrue(is_sharp(book, resting(steps)[-1], saying))
        return True

    def test_4_17_exactly_what_the_book_yields(self):
        chance = seeded(417)
        found = [self.derived(book, saying) for book, saying in mixed_books(chance, 500)]
        self.assertLess(100, sum(found))
        self.assertLess(100, len(found) - sum(found))

    def test_0_3_a_book_that_some_order_keeps_yields_what_it_tells(self):
        chance = seeded(3)
        sayings = all_sayings(TWO, usual=True)
        yielded = 0
        for _ in range(60):
            book = some_book(chance, TWO, 4, usual=True)
            for saying in chance.sample(sayings, 20):
                found = derivation(book, saying) is not None
                told = plain_tells(book, saying)
                yielded += found
                self.assertTrue(told or not found)
                if keeping(book):
                    self.assertEqual(found, told)
        self.assertLess(100, yielded)

    def test_4_17_books_without_sayings_and_sayings_that_no_day_breaks(self):
        for book in (Book(TWO, []), B, Book(TWO, [Saying(4, 0)])):
            for saying in (Saying(6, 6), Saying(15, 15), Saying(1, 9)):
                self.assertTrue(self.derived(book, saying))
        self.assertFalse(self.derived(Book(TWO, []), Saying(3, 1)))

    def test_4_17_books_that_no_order_keeps(self):
        book = Book(TWO, [Saying(4, 0)])
        self.assertTrue(self.derived(book, Saying(4, 0)))
        self.assertTrue(self.derived(book, Saying(5, 1)))
        self.assertFalse(self.derived(book, Saying(3, 1)))
        self.assertTrue(self.derived(Book(ONE, [Saying(3, 1), Saying(3, 2)]), Saying(3, 0)))

    def test_4_17_twelve_sayings_that_are_all_needed(self):
        book = Book(FOUR, [Saying.of_days(2 ** 12, 2 ** day) for day in range(12)])
        self.assertTrue(self.derived(book, Saying.of_days(2 ** 12, 2 ** 12 - 1)))
        self.assertTrue(self.derived(book, Saying.of_days(2 ** 12 + 2 ** 13, 2 ** 12 - 1)))
        self.assertFalse(self.derived(book, Saying.of_days(2 ** 12, 2 ** 13 - 1 - 2 ** 12 + 2 ** 14)))
        self.assertTrue(self.derived(Book(FOUR, [Saying(65535, 1)] * 12), Saying(65535, 1)))
        self.assertTrue(self.derived(Book(FOUR, [Saying.of_days(0, 2 ** day) for day in range(12)]), Saying(4095, 0)))

    def test_4_17_then_beyond_where_means_nothing(self):
        self.assertTrue(self.derived(B, Saying(10, 13)))
        self.assertTrue(self.derived(Book(TWO, [Saying(3, 13)]), Saying(3, 1)))

    def test_4_17_errors(self):
        need_not = Book(TWO, [Saying(3, 1), Saying(3, 1, False), Saying(5, 1, False)])
        for saying in FOREIGN:
            self.refuses(OtherDays(), derivation, B, saying)
            self.refuses(OtherDays(), derivation, need_not, saying)
        self.refuses(NeedNot(1), derivation, need_not, Saying(3, 3))
        self.refuses(NeedNot(1), derivation, need_not, Saying(3, 1, False))
        self.refuses(NeedNot(None), derivation, B, Saying(3, 1, False))
        self.refuses(NeedNot(None), derivation, Book(TWO, []), Saying(3, 3, False))

    def test_4_17_what_is_derived_is_what_is_asked(self):
        chance = seeded(4171)
        for _ in range(50):
            saying = some_saying(chance, TWO, usual=True)
            self.assertTrue(self.derived(Book(TWO, [saying]), saying))

