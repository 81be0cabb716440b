"""Talks: point 9.12."""

from tests.helpers import ONE, STRANGE, THREE, TWO, Case, keeping, seeded, some_kept_book
from tests.test_watchers import some_watchers
from usualdays.books import Book
from usualdays.errors import AlreadyPassed, BadWho, NoSaying, NotPassed
from usualdays.lifting import Stuck, lift, lifted_layers
from usualdays.marks import Marks
from usualdays.orders import Order
from usualdays.sayings import Saying
from usualdays.talk import Talk
from usualdays.watchers import Watchers

BOTH = Watchers(Book(ONE, [Saying(3, 1), Saying(3, 3)]), Book(Marks(("b", "a")), [Saying(15, 5), Saying(15, 12)]))


class PlainTalk:
    """What each watcher knows, as plain lists."""

    def __init__(self, both):
        self.own = {"one": list(range(len(both.one))),
                    "other": list(range(len(both.one), len(both.together)))}
        self.many = len(both.together)
        self.passed = []

    def known(self, who):
        return tuple(sorted(self.own[who] + [number for number in self.passed if number not in self.own[who]]))


class Talking(Case):
    def agrees(self, talk, plain, both):
        self.assertIs(type(talk.passed), tuple)
        self.assertEqual(talk.passed, tuple(plain.passed))
        everything = tuple(range(plain.many))
        self.assertIs(talk.settled, plain.known("one") == plain.known("other") == everything)
        for who in ("one", "other"):
            known = talk.known_to(who)
            self.assertIs(type(known), tuple)
            self.assertEqual(known, plain.known(who))
            self.assertEqual(talk.book_of(who), Book(both.marks, [both.together[number] for number in known]))
            found = lift(talk.book_of(who))
            self.assertEqual(talk.order_of(who), None if isinstance(found, Stuck) else found.order)

    def refused(self, talk, plain, number):
        if number in plain.passed:
            self.refuses(AlreadyPassed(number), talk.pass_on, number)
        else:
            self.refuses(NotPassed(number), talk.call_back, number)

    def test_9_12_against_plain_lists(self):
        chance = seeded(912)
        settled = 0
        for _ in range(40):
            both = some_watchers(chance, "abc", 3, 4, 0.8)
            talk, plain = Talk(both), PlainTalk(both)
            self.assertIs(talk.watchers, both)
            for _ in range(16):
                self.agrees(talk, plain, both)
                settled += talk.settled and plain.many > 0
                if plain.many == 0:
                    break
                number = chance.randrange(plain.many)
                self.refused(talk, plain, number)
                if number in plain.passed and chance.random() < 0.5:
                    self.assertIsNone(talk.call_back(number))
                    plain.passed.remove(number)
                elif number not in plain.passed:
                    self.assertIsNone(talk.pass_on(number))
                    plain.passed.append(number)
        self.assertLess(10, settled)

    def test_9_12_orders_rise_and_fall(self):
        chance = seeded(9121)
        risen = 0
        for _ in range(60):
            both = some_watchers(chance, "abc", 3, 4, 1)
            talk = Talk(both)
            numbers = list(range(len(both.together)))
            chance.shuffle(numbers)
            for number in numbers:
                who = "other" if both.owner(number) == "one" else "one"
                still = both.owner(number)
                before, aside = talk.order_of(who), talk.order_of(still)
                talk.pass_on(number)
                behind = talk.order_of(who)
                self.assertEqual(talk.order_of(still), aside)
                if behind is not None:
                    self.assertTrue(before.beneath(behind))
                    self.assertEqual(lifted_layers(talk.book_of(who), start=before.layers), behind.layers)
                    risen += before != behind
                elif before is not None:
                    self.assertIn(None, lifted_layers(talk.book_of(who), start=before.layers))
                talk.call_back(number)
                self.assertEqual(talk.order_of(who), before)
                talk.pass_on(number)
            self.assertTrue(talk.settled)
            again = Talk(both)
            for number in sorted(numbers, reverse=True):
                again.pass_on(number)
            self.assertEqual([again.order_of(who) for who in ("one", "other")],
                             [talk.order_of(who) for who in ("one", "other")])
        self.assertLess(20, risen)

    def test_9_12_all_orders(self):
        chance = seeded(9122)
        for _ in range(30):
            both = Watchers(some_kept_book(chance, TWO, 2), some_kept_book(chance, ONE, 2))
            talk = Talk(both)
            for number in chance.sample(range(4), 2):
                talk.pass_on(number)
            for who in ("one", "other"):
                orders = keeping(talk.book_of(who))
                least = Order(tuple(min(layers) for layers in zip(*orders))) if orders else None
                self.assertEqual(talk.order_of(who), least)

    def test_9_12_example(self):
        talk = Talk(BOTH)
        self.assertEqual((talk.passed, talk.known_to("one"), talk.known_to("other"), talk.settled),
                         ((), (0, 1), (2, 3), False))
        for number in (3, 0, 2):
            talk.pass_on(number)
        self.assertEqual((talk.passed, talk.known_to("one"), talk.known_to("other"), talk.settled),
                         ((3, 0, 2), (0, 1, 2, 3), (0, 2, 3), False))
        talk.pass_on(1)
        self.assertEqual((talk.passed, talk.settled), ((3, 0, 2, 1), True))
        # In the book of the other one, the marks stand the other way about.
        self.assertEqual(talk.book_of("other"), BOTH.together)
        talk.call_back(0)
        self.assertEqual((talk.passed, talk.settled), ((3, 2, 1), False))
        talk.pass_on(0)
        self.assertEqual(talk.passed, (3, 2, 1, 0))

    def test_9_12_edges(self):
        empty = Talk(Watchers(Book(ONE, []), Book(THREE, [])))
        self.assertEqual((empty.settled, empty.passed, empty.known_to("one")), (True, (), ()))
        self.assertEqual(empty.order_of("other"), Order.flat(8))
        one_sided = Talk(Watchers(Book(ONE, []), Book(ONE, [Saying(1, 0)] * 12)))
        self.assertEqual((one_sided.order_of("one"), one_sided.order_of("other")), (Order.flat(2), None))
        for number in range(12):
            self.assertFalse(one_sided.settled)
            one_sided.pass_on(number)
            self.assertIsNone(one_sided.order_of("one"))
        self.assertTrue(one_sided.settled)
        self.assertEqual(Talk(one_sided.watchers).passed, ())

    def test_9_12_errors(self):
        talk = Talk(BOTH)
        talk.pass_on(2)
        for number in (4, 12, "one", *STRANGE):
            self.refuses(NoSaying(number), talk.pass_on, number)
            self.refuses(NoSaying(number), talk.call_back, number)
        self.refuses(AlreadyPassed(2), talk.pass_on, 2)
        for number in (0, 1, 3):
            self.refuses(NotPassed(number), talk.call_back, number)
        for who in ("One", "", "both", ("one",), *STRANGE):
            for call in (talk.known_to, talk.book_of, talk.order_of):
                self.refuses(BadWho(who), call, who)
        self.assertEqual((talk.passed, talk.known_to("one")), ((2,), (0, 1, 2)))
        talk.call_back(2)
        self.refuses(NotPassed(2), talk.call_back, 2)
        self.assertEqual(talk.passed, ())
