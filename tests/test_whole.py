"""The whole program: answers of several modules about one book agree (point 0.3), and stay the same (point 0.5)."""

from tests.helpers import (FOUR, ONE, STRANGE, THREE, TWO, Case, seeded, some_book, some_kept_book, some_saying)
from usualdays.added import added_saying
from usualdays.bench import Bench, on_trial, promised
from usualdays.benchtext import bench_text, read_bench
from usualdays.books import Book
from usualdays.booktext import book_text, read_book
from usualdays.choices import lift_choices
from usualdays.compare import compare_books
from usualdays.cores import core, fronts
from usualdays.counting import counting_order, grades_of
from usualdays.derivations import derivation
from usualdays.doubts import doubt_of, doubt_sum
from usualdays.errors import NoOrder, NotPassed
from usualdays.exchange import exchange_layers, join_orders, meet
from usualdays.expecting import expects, least_order
from usualdays.forces import forced_order
from usualdays.greatest import GreatestDoubt, doubt_range, greatest_doubt
from usualdays.history import History
from usualdays.learning import learn
from usualdays.leastbooks import carriers, least_books
from usualdays.lifting import Lifted, Stuck, lift, lifted_layers
from usualdays.looks import look_of, spread_over, widened_book
from usualdays.lots import sharp_lot, silent_lots, telling_lots, widest_lot
from usualdays.margins import margin, relation
from usualdays.marks import Marks
from usualdays.meeting import least_meeting
from usualdays.merges import merge_orders
from usualdays.news import Piece, order_of_news, stack
from usualdays.orders import Order
from usualdays.parting import parting_of
from usualdays.pins import Pinned, ladder, pin, pinned
from usualdays.reach import Reachable, reachable
from usualdays.sayings import Saying
from usualdays.shares import greatest_share
from usualdays.shelves import failing, serving_lots, servings
from usualdays.steady import Steady, cheapest, filled, is_full, kept_lot, steady
from usualdays.steps import big_steps, order_by_weights
from usualdays.strife import strife
from usualdays.sums import Bounded, sum_bound
from usualdays.tables import Table, settle
from usualdays.talk import Talk
from usualdays.thin import needed, thin
from usualdays.told import standing, tell, tells
from usualdays.trim import trim
from usualdays.watchers import Watchers, standing_of
from usualdays.weighing import weigh, weigh_fault
from usualdays.weights import Weights


def plain(thing):
    """A thing as nested tuples of plain values: what can be seen of it."""
    if isinstance(thing, (list, tuple)):
        return tuple(plain(item) for item in thing)
    if hasattr(thing, "__dict__"):
        shown = sorted(vars(thing).items())
        return (type(thing).__name__, *[(name, plain(value)) for name, value in shown if not name.startswith("_")])
    return type(thing).__name__, thing


def questions(book, saying):
    """Questions about a book and a saying, as functions without arguments."""
    both = Watchers(book.only(tuple(range(min(len(book), 6)))), Book(Marks(("a", "z")), [Saying(15, 3)]))
    usual = Book(book.marks, [own for own in book if own.usual])
    flat = Order.flat(book.marks.days)
    bench, aim = Bench(book), Saying(saying.where, saying.then)
    bounds, history = [(1, 20)] * len(usual), History(flat)
    history.put(aim, 3)
    shelf = [saying, saying.flipped(), saying.contrary()]
    return [lambda: lift(book), lambda: lift(book, saying), lambda: lifted_layers(book, saying),
            lambda: tell(book, saying), lambda: standing(book, saying), lambda: telling_lots(book, saying),
            lambda: silent_lots(book, saying), lambda: core(book, saying.where),
            lambda: fronts(book, saying.where & 7 or 1), lambda: margin(book, 1, 2),
            lambda: relation(book, saying.where, 1), lambda: derivation(usual, aim),
            lambda: greatest_doubt(usual, bounds, aim), lambda: doubt_range(usual, bounds, aim),
            lambda: greatest_share(usual, bounds, aim, (1, 2)), lambda: sum_bound(usual, aim), lambda: learn(usual),
            lambda: weigh(usual, (1,) * len(usual), saying), lambda: history.now, lambda: history.lying,
            lambda: order_of_news(flat, [Piece(aim, 2)]), lambda: lift_choices(book.marks, [(3, 1), (3, 3)]),
            lambda: compare_books(book, book.with_saying(saying)), lambda: needed(book), lambda: thin(book),
            lambda: least_books(book), lambda: carriers(book), lambda: trim(book), lambda: pinned(book),
            lambda: widened_book(book, both.marks if both.marks.count > 1 else TWO), lambda: both.together,
            lambda: meet(both), lambda: added_saying(both), lambda: standing_of(both, Saying(3, 1)),
            lambda: parting_of(both, "first", Saying(3, 1)), lambda: strife(book), lambda: strife(book, saying),
            lambda: steady(book, saying), lambda: kept_lot(book, flat), lambda: filled(book, flat),
            lambda: is_full(book, flat), lambda: cheapest(book, [1] * len(book)),
            lambda: failing(book, shelf, (0,), shelf[:1], shelf[1:2]), lambda: servings(book, shelf, shelf[:1], []),
            lambda: tuple(serving_lots(book, shelf, shelf[:2], [], for_all=True)),
            lambda: reachable(book, shelf[:1], shelf[1:]), lambda: promised(bench, [saying]),
            lambda: on_trial(bench, lambda own: (own.put(saying), own.now, own.deeds)), lambda: bench_text(bench),
            lambda: book_text(book), lambda: bench.quarrel_lots(), lambda: tuple(bench)]


class Agreeing(Case):
    def test_0_3_what_is_told(self):
        chance = seeded(30)
        kinds = set()
        for _ in range(150):
            marks = chance.choice((ONE, TWO, THREE, FOUR))
            book = some_book(chance, marks, 5) if chance.random() < 0.4 else some_kept_book(chance, marks, 5)
            saying = some_saying(chance, marks)
            told, stuck = tells(book, saying), isinstance(lift(book), Stuck)
            kinds.add((told, stuck))
            alone = Book(marks, [saying])
            self.assertEqual(standing(book, saying) in ("told", "all"), told)
            self.assertEqual(compare_books(book, alone).verdict in ("alike", "first"), told)
            self.assertEqual(telling_lots(book, saying) != (), told)
            self.assertEqual(silent_lots(book, saying) != ((tuple(range(len(book)))),), told)
            self.assertEqual(strife(book, saying.contrary()).quarrels != (), told)
            self.assertEqual(needed(book.with_saying(saying))[-1:] != (len(book),), told)
            self.assertEqual(isinstance(lift(book, saying.contrary()), Stuck), told)
            self.assertEqual(isinstance(reachable(book, [], [saying]), Reachable), not told)
            if saying.usual:
                self.assertEqual(core(book, saying.where).days & ~saying.then == 0, told)
            if not stuck:
                self.assertEqual(isinstance(steady(book, saying), Steady), told)
                self.assertEqual(failing(book, [], (), [saying], [], for_all=True) is None, told)
                self.assertEqual(expects(book, saying), failing(book, [], (), [saying], []) is None)
                if told:
                    self.assertTrue(expects(book, saying))
            both = Watchers(book, Book(marks, []))
            self.assertEqual(standing_of(both, saying) in ("one", "both"), told)
            self.assertEqual(standing_of(both, saying) == "both", tells(Book(marks, []), saying))
        self.assertEqual(kinds, {(True, True), (True, False), (False, False)})

    def test_0_3_what_is_told_and_what_is_yielded(self):
        chance = seeded(31)
        yielded = 0
        for _ in range(120):
            marks = chance.choice((ONE, TWO, THREE))
            book, saying = some_kept_book(chance, marks, 4, True), some_saying(chance, marks, True)
            told = tells(book, saying)
            yielded += told
            self.assertEqual(sharp_lot(book, saying) is not None, told)
            self.assertEqual(widest_lot(book, saying) is not None, told)
            self.assertEqual(derivation(book, saying) is not None, told)
            bound = sum_bound(book, saying)
            self.assertEqual(isinstance(bound, Bounded), told)
            weights = Weights([chance.randint(0, 3) for _ in range(marks.days - 1)] + [1])
            if told:
                one, other = doubt_of(weights, saying), doubt_sum(weights, book)
                self.assertLessEqual(one[0] * other[1], other[0] * one[1])
        self.assertLess(20, yielded)

    def test_0_3_books_alike_give_the_same_answers(self):
        chance = seeded(32)
        for _ in range(60):
            marks = chance.choice((ONE, TWO, TWO, THREE))
            book = some_book(chance, marks, 5) if chance.random() < 0.4 else some_kept_book(chance, marks, 5)
            alike = [book.only(thin(book).kept), trim(book).book, book.only(least_books(book)[-1]),
                     read_book(book_text(book)), Bench(book).now, Watchers(book, Book(marks, [])).together,
                     read_bench(bench_text(Bench(book))).now, book + book.only(needed(book))]
            found = pinned(book)
            if isinstance(found, Pinned):
                alike.append(pin(marks, found.order))
            for other in alike:
                self.assertEqual(compare_books(book, other).verdict, "alike")
                self.assertIs(type(lift(other)), type(lift(book)))
                if isinstance(lift(book), Lifted):
                    self.assertEqual(least_order(other), least_order(book))
                self.assertIs(type(pinned(other)), type(found))
                for saying in [some_saying(chance, marks) for _ in range(5)]:
                    self.assertEqual(standing(other, saying), standing(book, saying))
                for lot in carriers(book):
                    self.assertEqual(plain(lift(book.only(lot)))[0], plain(lift(other))[0])

    def test_0_3_the_least_order_in_several_ways(self):
        chance = seeded(38)
        for _ in range(60):
            marks = chance.choice((ONE, TWO, THREE))
            book, saying = some_kept_book(chance, marks, 4, True), some_saying(chance, marks, True)
            order = least_order(book)
            table = Table.of_order(order)
            self.assertEqual(settle(table).order, order)
            choices = [(many, table.normals[many]) for many in range(1, 2 ** marks.days)]
            self.assertEqual(lift_choices(marks, choices).order, order)
            self.assertEqual(order_by_weights(big_steps(order, 3)), order)
            self.assertEqual(order_of_news(Order.flat(marks.days), stack(order)), order)
            forces = learn(book).forces
            self.assertEqual(weigh_fault(book, grades_of(book), saying, weigh(book, grades_of(book), saying)), None)
            for other in (forced_order(book, forces), counting_order(book)):
                self.assertTrue(other.keeps_all(book))
                if expects(book, saying):
                    self.assertTrue(other.keeps(saying))
            # Whose doubts are all small under some weights is kept by their order; who is yielded is hardly doubtful.
            found = greatest_doubt(book, [(1, 20)] * len(book), saying)
            if isinstance(found, GreatestDoubt):
                top, bottom = found.doubt
                self.assertEqual(top * 20 <= len(book) * bottom, sharp_lot(book, saying) is not None)

    def test_0_3_two_watchers(self):
        chance = seeded(33)
        for _ in range(60):
            one, other = some_kept_book(chance, TWO, 3), some_kept_book(chance, Marks(("b", "c")), 3)
            both = Watchers(one, other)
            talk = Talk(both)
            for number in range(len(both.together)):
                talk.pass_on(number)
            found = lift(both.together)
            order = found.order if isinstance(found, Lifted) else None
            self.assertEqual((talk.order_of("one"), talk.order_of("other")), (order, order))
            self.assertEqual(exchange_layers(both).order, order)
            self.assertEqual(strife(both.wide_one, *both.wide_other).quarrels == (), order is not None)
            if order is None:
                self.assertRaises(NoOrder, least_order, both.together)
                continue
            self.assertEqual(meet(both).order, order)
            looks = [Order(look_of(both.marks, order, book.marks.names)) for book in (one, other)]
            self.assertEqual(join_orders(both, *looks), order)
            wide = [spread_over(both.marks, look, book.marks.names) for look, book in zip(looks, (one, other))]
            self.assertEqual(merge_orders("higher", *[Order(layers) for layers in wide]), order)
            self.assertEqual(lift(both.together, *ladder(both.marks, order)).order, order)

    def test_0_3_quarrels_and_withdrawals_of_several_functions(self):
        chance = seeded(34)
        for _ in range(40):
            book = some_book(chance, TWO, 6)
            found = strife(book)
            lots = [lot for lot, _ in found.withdrawals]
            bench = Bench(book)
            self.assertEqual(bench.withdrawal_lots(), tuple(lots))
            self.assertEqual(least_meeting(bench.quarrel_lots()), tuple(lots))
            self.assertIn(cheapest(book, [1] * len(book)).lots[0], lots)
            for index, (lot, order) in enumerate(found.withdrawals):
                self.assertTrue(is_full(book, order))
                self.assertEqual(filled(book, order), order)
                self.assertEqual(on_trial(bench, lambda own, place=index: (own.mend(place), lift(own.now).order)),
                                 (lot, order))


class TheSameAgain(Case):
    def some_pair(self, chance):
        marks = chance.choice((ONE, TWO, THREE))
        many = chance.randint(0, 5)
        book = some_kept_book(chance, marks, many) if chance.random() < 0.6 else some_book(chance, marks, 5)
        return book, some_saying(chance, marks)

    def test_0_5_asked_again_behind_other_questions(self):
        chance = seeded(35)
        pairs = [self.some_pair(chance) for _ in range(12)]
        first = [[plain(ask()) for ask in questions(*pair)] for pair in pairs]
        asked = [(place, number, ask) for place, pair in enumerate(pairs)
                 for number, ask in enumerate(questions(*pair))]
        chance.shuffle(asked)
        for place, number, ask in asked:
            self.assertEqual(plain(ask()), first[place][number], (place, number))

    def test_0_5_what_is_read_back_gives_the_same_answers(self):
        chance = seeded(36)
        for _ in range(12):
            book, saying = self.some_pair(chance)
            again = read_book(book_text(book))
            self.assertEqual([plain(ask()) for ask in questions(again, saying)],
                             [plain(ask()) for ask in questions(book, saying)])

    def test_0_5_all_sequences_are_tuples(self):
        chance = seeded(37)
        for _ in range(12):
            for ask in questions(*self.some_pair(chance)):
                self.only_tuples(ask())

    def only_tuples(self, thing):
        self.assertNotIsInstance(thing, (list, dict, set))
        if isinstance(thing, tuple):
            for item in thing:
                self.only_tuples(item)
        elif hasattr(thing, "__dict__"):
            for value in vars(thing).values():
                self.only_tuples(value)

    def test_0_5_nothing_passed_in_is_changed_or_kept(self):
        book = Book(TWO, [Saying(15, 5), Saying(10, 12)])
        shelf, wishes, bars = [Saying(9, 1), Saying(12, 4)], [Saying(12, 4)], [Saying(3, 2)]
        costs, lots, names, layers = [2, 1], [[0, 1], [1]], ["b", "a"], [0, 1, 2, 3]
        things = (shelf, wishes, bars, costs, lots, names, layers)
        before = [list(thing) for thing in things]
        found = servings(book, shelf, wishes, bars)
        answers = [failing(book, shelf, [0], wishes, bars), reachable(book, wishes, bars), cheapest(book, costs),
                   least_meeting(lots), look_of(TWO, layers, names), spread_over(TWO, layers, names), found]
        self.assertEqual([list(thing) for thing in things], before)
        shown = plain(answers)
        for thing in things:
            thing.clear()
        self.assertEqual(plain(answers), shown)

    def test_0_8_numbers_that_are_none(self):
        # What names nothing is refused by the same error everywhere, and nothing is changed by it.
        talk = Talk(Watchers(Book(ONE, [Saying(3, 1)]), Book(ONE, [])))
        for number in STRANGE:
            self.assertRaises(ValueError, talk.pass_on, number)
        self.refuses(NotPassed(0), talk.call_back, 0)
        self.assertEqual(talk.passed, ())
