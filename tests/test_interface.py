"""The interface: what is defined where, and with which parameters."""

import ast
import importlib
import inspect

from tests.helpers import Case

FUNCTIONS = {
    "ratios": "is_whole(thing, low, high); ratio(top, bottom); compare_ratios(one, other); ratio_sum(one, other);"
              " ratio_product(one, other)",
    "daysets": "days_in(day_set); set_of(days); size(day_set); within(one, other)",
    "sentences": "names_in(sentence)",
    "reader": "read_sentence(text)",
    "writer": "sentence_of(marks, days)",
    "verdicts": "verdicts_of(saying); joined(sayings); sharper(one, other)",
    "booktext": "saying_text(marks, saying); read_saying(marks, text, row=1); book_text(book); read_book(text)",
    "orders": "layer_lines(order)",
    "lifting": "lift(book, *further); lifted_layers(book, *further, start=None)",
    "liftjudge": "lifted_fault(book, lifted, *further); stuck_fault(book, stuck, *further)",
    "told": "tell(book, saying); tell_fault(book, saying, answer); standing(book, saying)",
    "lots": "sharp_lot(book, saying); sharp_lots(book, saying); widest_lot(book, saying); telling_lots(book, saying);"
            " silent_lots(book, saying)",
    "cores": "core(book, where); core_fault(book, where, answer); fronts(book, where)",
    "margins": "margin(book, one, other); margin_fault(book, one, other, answer); relation(book, one, other);"
               " order_apart(book, one, other, many)",
    "derivations": "derivation(book, saying); derivation_fault(book, steps); resting(steps)",
    "doubts": "doubt_of(weights, saying); doubts_of(weights, book); doubt_sum(weights, book);"
              " check_bounds(book, bounds); first_excess(weights, book, bounds)",
    "steps": "big_steps(layers, step); order_by_weights(weights)",
    "linear": "solve(task); solve_fault(task, answer)",
    "greatest": "doubt_task(book, bounds, saying); greatest_doubt(book, bounds, saying);"
                " doubt_range(book, bounds, saying); greatest_fault(book, bounds, saying, answer); lot_of(answer)",
    "shares": "share_task(book, bounds, saying, least); greatest_share(book, bounds, saying, least);"
              " share_fault(book, bounds, saying, least, answer)",
    "sums": "sum_bound(book, saying, *, parts=2); sum_fault(book, saying, answer)",
    "expecting": "least_order(book, *further); expects(book, saying, *further)",
    "tables": "settle(table); settle_fault(table, answer)",
    "choices": "choice_sayings(choices); lift_choices(marks, choices)",
    "counting": "grades_of(book); counts_of(book, day); counting_order(book)",
    "news": "order_of_news(start, pieces); firmness(order, saying); stack(order); single_piece(one, other)",
    "forces": "is_steep(grades, forces); forced_order(book, forces)",
    "weighing": "weigh(book, grades, saying); weigh_fault(book, grades, saying, answer)",
    "learning": "learn(book)",
    "compare": "compare_books(one, two); compare_fault(one, two, compared)",
    "thin": "needed(book); thin(book); thin_fault(book, thinned)",
    "leastbooks": "least_books(book); carriers(book)",
    "trim": "trim(book); trim_fault(book, trimmed)",
    "pins": "ladder(marks, order); pin(marks, order); pinned(book)",
    "looks": "look_day(marks, day, names); look_of(marks, layers, names); spread_over(marks, layers, names);"
             " widened_days(marks, day_set, more); widened_book(book, more)",
    "watchers": "standing_of(watchers, saying)",
    "exchange": "meet(watchers); exchange_layers(watchers); join_orders(watchers, one, other)",
    "merges": "merge_orders(way, first, second)",
    "parting": "parting_of(watchers, way, saying); parting_fault(watchers, way, saying, result)",
    "added": "added_saying(watchers)",
    "meeting": "least_meeting(lots)",
    "strife": "strife(book, *further); strife_fault(book, answer, *further)",
    "steady": "kept_lot(book, order); is_full(book, order); filled(book, order); steady(book, saying);"
              " steady_fault(book, saying, answer); cheapest(book, costs)",
    "shelves": "failing(book, shelf, lot, wishes, bars, *, for_all=False);"
               " serving_lots(book, shelf, wishes, bars, *, for_all=False);"
               " servings(book, shelf, wishes, bars, *, for_all=False)",
    "reach": "reachable(book, wishes, bars, *, for_all=False)",
    "bench": "on_trial(bench, task); promised(bench, sayings)",
    "benchtext": "bench_text(bench); read_bench(text)",
}

SENTENCE = " true_days(self, marks); text(self); __eq__(self, other)"
CLASSES = {
    "marks.Marks": "__init__(self, names); day(self, *names); names_on(self, day); label(self, day);"
                   " days_with(self, name); __eq__(self, other)",
    "sentences.Sentence": "__and__(self, other); __or__(self, other); __invert__(self)",
    "sentences.Mark": "__init__(self, name);" + SENTENCE,
    "sentences.Not": "__init__(self, part);" + SENTENCE,
    "sentences.Both": "__init__(self, parts);" + SENTENCE,
    "sentences.Either": "__init__(self, parts);" + SENTENCE,
    "sentences.Always": SENTENCE,
    "sentences.Never": SENTENCE,
    "sayings.Saying": "__init__(self, where, then, usual=True); contrary(self); flipped(self); on(self, day);"
                      " __eq__(self, other); of_days(cls, confirm, broken, usual=True)",
    "verdicts.Verdicts": "__init__(self, confirm, broken); none(cls); on(self, day); __add__(self, other);"
                         " __eq__(self, other)",
    "books.Book": "__init__(self, marks, sayings); first_need_not(self); with_saying(self, saying); only(self, lot);"
                  " without(self, lot); __getitem__(self, number); __len__(self); __iter__(self);"
                  " __add__(self, other); __eq__(self, other)",
    "orders.Order": "__init__(self, layers); flat(days); lowered(layers); levels(self); least(self, days);"
                    " normal(self, days); closed(self); beneath(self, other); keeps(self, saying);"
                    " keeps_all(self, sayings); __getitem__(self, day); __len__(self); __iter__(self);"
                    " __eq__(self, other); __and__(self, other); __call__(self, sayings)",
    "lifting.Lifted": "__init__(self, order, reasons, heights); grounds(self)",
    "lifting.Stuck": "__init__(self, days, reasons, heights); grounds(self)",
    "told.Told": "__init__(self, stuck)",
    "told.NotTold": "__init__(self, order)",
    "cores.Core": "__init__(self, days, orders, stuck)",
    "cores.Front": "__init__(self, days, order)",
    "margins.Margin": "__init__(self, many, order, offsets, reasons, heights)",
    "margins.Loose": "__init__(self, order, raised)",
    "derivations.Step": "__init__(self, rule, lines, saying)",
    "weights.Weights": "__init__(self, numbers); even(cls, days); of(self, day_set); given(self, day_set);"
                       " lowest(self); total(self); is_full(self); __getitem__(self, day); __len__(self); __iter__(self);"
                       " __add__(self, other); __mul__(self, other); __eq__(self, other)",
    "linear.Task": "__init__(self, goal, unit, rows); __eq__(self, other)",
    "linear.Top": "__init__(self, value, point, multipliers)",
    "linear.Barred": "__init__(self, multipliers)",
    "greatest.GreatestDoubt": "__init__(self, doubt, weights, multipliers)",
    "greatest.Weightless": "__init__(self, multipliers)",
    "shares.GreatestShare": "__init__(self, share, weights, multipliers)",
    "shares.NoWeights": "__init__(self, multipliers)",
    "sums.Bounded": "__init__(self, lot)",
    "sums.Exceeds": "__init__(self, weights)",
    "tables.Table": "__init__(self, normals); of_order(order); __eq__(self, other)",
    "tables.Settled": "__init__(self, order)",
    "tables.Choosy": "__init__(self, many, few)",
    "news.Piece": "__init__(self, saying, force); __eq__(self, other)",
    "history.History": "__init__(self, start); put(self, saying, force); take_back(self, number);"
                       " restore(self, number); as_of(self, number); piece(self, number); without(self, *numbers);"
                       " now(self); lying(self); deeds(self)",
    "weighing.ForAllForces": "__init__(self, matches)",
    "weighing.NotForAll": "__init__(self, forces)",
    "learning.Learned": "__init__(self, forces)",
    "compare.Compared": "__init__(self, first, second); verdict(self)",
    "thin.Thinned": "__init__(self, kept, orders, dropped, stucks)",
    "trim.Trimmed": "__init__(self, book, numbers)",
    "pins.Pinned": "__init__(self, order, stucks)",
    "pins.Unpinned": "__init__(self, order, other)",
    "watchers.Watchers": "__init__(self, one, other); owner(self, number)",
    "exchange.Stranded": "__init__(self, who, stuck)",
    "exchange.Met": "__init__(self, one, other, order)",
    "exchange.Clash": "__init__(self, stuck)",
    "exchange.Exchange": "__init__(self, reports, one, other, order)",
    "parting.Parting": "__init__(self, one, other)",
    "talk.Talk": "__init__(self, watchers); pass_on(self, number); call_back(self, number); known_to(self, who);"
                 " book_of(self, who); order_of(self, who); passed(self); settled(self)",
    "strife.Strife": "__init__(self, quarrels, withdrawals)",
    "steady.Steady": "__init__(self, stucks)",
    "steady.Unsteady": "__init__(self, lot, order)",
    "steady.Cheapest": "__init__(self, cost, lots)",
    "shelves.Failure": "__init__(self, what, index, paper)",
    "shelves.Serving": "__init__(self, lot, failures)",
    "reach.Reachable": "__init__(self, orders)",
    "reach.Unreachable": "__init__(self, index, stuck)",
    "bench.Bench": "__init__(self, book); now(self); deeds(self); put(self, saying); take(self, number);"
                   " mend(self, index); undo(self); redo(self); quarrel_lots(self); withdrawal_lots(self);"
                   " trial(self); __len__(self); __iter__(self)",
}
DECORATED = {"of_days": "classmethod", "none": "classmethod", "flat": "staticmethod", "lowered": "staticmethod",
             "first_need_not": "property", "levels": "property", "grounds": "property", "even": "classmethod",
             "total": "property", "is_full": "property", "of_order": "staticmethod", "now": "property",
             "lying": "property", "deeds": "property", "verdict": "property", "passed": "property",
             "settled": "property"}


def tree_of(module):
    return ast.parse(inspect.getsource(importlib.import_module("usualdays." + module)))


def shown(node):
    return f"{node.name}({ast.unparse(node.args)})"


class Interface(Case):
    def test_functions_are_defined_in_their_files(self):
        for module, wanted in FUNCTIONS.items():
            defined = [shown(node) for node in tree_of(module).body if isinstance(node, ast.FunctionDef)]
            for entry in wanted.split("; "):
                self.assertIn(entry.strip(), defined, module)

    def test_classes_and_methods_are_defined_in_their_files(self):
        for place, wanted in CLASSES.items():
            module, name = place.split(".")
            [node] = [n for n in tree_of(module).body if isinstance(n, ast.ClassDef) and n.name == name]
            methods = {shown(n): n for n in node.body if isinstance(n, ast.FunctionDef)}
            for entry in wanted.split("; "):
                entry = entry.strip()
                self.assertIn(entry, methods, place)
                decorators = [ast.unparse(d) for d in methods[entry].decorator_list]
                plain = entry.split("(")[0]
                self.assertEqual(decorators, [DECORATED[plain]] if plain in DECORATED else [], (place, entry))

    def test_sentences_stand_under_their_base(self):
        module = importlib.import_module("usualdays.sentences")
        for name in ("Mark", "Not", "Both", "Either", "Always", "Never"):
            self.assertEqual(getattr(module, name).__bases__, (module.Sentence,))

    def test_0_5_objects_have_no_order(self):
        for place in CLASSES:
            module, name = place.split(".")
            kind = getattr(importlib.import_module("usualdays." + module), name)
            for operator in ("__lt__", "__le__", "__gt__", "__ge__"):
                self.assertNotIn(operator, vars(kind))

    def test_attributes_are_set_when_an_object_is_created(self):
        from usualdays.bench import Bench
        from usualdays.books import Book
        from usualdays.linear import Task
        from usualdays.marks import Marks
        from usualdays.news import Piece
        from usualdays.orders import Order
        from usualdays.sayings import Saying
        from usualdays.tables import Table
        from usualdays.talk import Talk
        from usualdays.verdicts import Verdicts
        from usualdays.watchers import Watchers
        from usualdays.weights import Weights
        marks = Marks(["a"])
        for made, names in ((marks, "names count days all_days"), (Verdicts(1, 2), "confirm broken"),
                            (Saying(3, 1), "where then usual confirm broken low high step"),
                            (Book(marks, []), "marks sayings"), (Order([0, 1]), "layers"),
                            (Weights([0, 1]), "numbers"), (Task([1], [1], []), "goal unit rows"),
                            (Table([0, 1, 2, 3]), "normals days"), (Piece(Saying(3, 1), 1), "saying force"),
                            (Watchers(Book(marks, []), Book(marks, [])),
                             "one other marks shared wide_one wide_other together"),
                            (Talk(Watchers(Book(marks, []), Book(marks, []))), "watchers"),
                            (Bench(Book(marks, [])), "first")):
            for name in names.split():
                self.assertIn(name, vars(made))
