"""The errors: point 0.7 and the list in the interface."""

import ast
import inspect

from tests.helpers import Case
from usualdays import errors

LISTED = """BadRatio() BadMarks(what,index) NoMark(name) NoDay(day) BadParts() BadSentence(what,at)
BadSaying(what) BadVerdicts() BadBook(what,number) NoSaying(number) BadLot() OtherDays() NeedNot(number)
BadRow(row,what) BadOrder(what) BadStart() TooMany(count) BadDays() BadWeights(what) BadBounds(what,number)
BadStep(number) BadTask(what) NoOrder(stuck) BadTable(what,day_set) BadChoice(index) BadPiece(what)
NoPiece(number) NoDeed(number) BadGrades() BadForces() BadWatchers(what) StuckAlone(who) OtherLook(day)
BadWay(way) AlreadyPassed(number) NotPassed(number) BadWho(who) BadCosts() BadShelf(what)
NoWithdrawal(index) NothingDone()""".split()


def listed():
    for entry in LISTED:
        name, rest = entry.rstrip(")").split("(")
        yield name, [word for word in rest.split(",") if word]


class Errors(Case):
    def test_0_7_all_are_there_and_no_others(self):
        names = ["DaysError"] + [name for name, _ in listed()]
        tree = ast.parse(inspect.getsource(errors))
        self.assertEqual([node.name for node in tree.body if isinstance(node, ast.ClassDef)], names)

    def test_0_7_bases(self):
        self.assertEqual(errors.DaysError.__bases__, (ValueError,))
        for name, _ in listed():
            self.assertEqual(getattr(errors, name).__bases__, (errors.DaysError,), name)

    def test_0_7_each_takes_and_keeps_its_attributes_in_order(self):
        for name, words in listed():
            kind = getattr(errors, name)
            self.assertIn("__init__", vars(kind), name)
            self.assertEqual(list(inspect.signature(kind).parameters), words, name)
            passed = [[word] for word in words]
            made = kind(*passed)
            self.assertEqual(vars(made), dict(zip(words, passed)), name)
            for word, thing in zip(words, passed):
                self.assertIs(getattr(made, word), thing)
            self.assertEqual(vars(kind(**dict(zip(words, passed)))), vars(made))

    def test_0_7_no_attributes_of_the_base(self):
        self.assertIn("__init__", vars(errors.DaysError))
        self.assertEqual(vars(errors.DaysError()), {})
        self.assertRaises(TypeError, errors.DaysError, 1)
        self.assertRaises(TypeError, errors.BadRatio, 1)

    def test_0_7_all_can_be_caught_as_value_errors(self):
        for name, words in listed():
            with self.assertRaises(ValueError):
                raise getattr(errors, name)(*words)
