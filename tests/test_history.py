"""Histories: points 7.4 and 7.5."""

from tests.helpers import FOUR, ONE, STRANGE, THREE, TWO, Case, seeded, some_saying
from tests.test_news import GREATEST, plain_news, some_start
from usualdays.errors import BadPiece, BadStart, NoDeed, NoPiece, OtherDays, TooMany
from usualdays.history import History
from usualdays.news import Piece
from usualdays.orders import Order
from usualdays.sayings import Saying


class Plain:
    """A history as the plain list of its deeds; all else is worked out from them."""

    def __init__(self, start):
        self.start = start
        self.done = []

    def pieces(self, many=None):
        return [what for word, what in self.done[:many] if word == "put"]

    def lying(self, many=None):
        lying = set()
        put = 0
        for word, what in self.done[:many]:
            if word == "put":
                lying.add(put)
                put += 1
            elif word == "take_back":
                lying.remove(what)
            else:
                lying.add(what)
        return tuple(sorted(lying))

    def order(self, many=None, without=()):
        pieces = self.pieces(many)
        return plain_news(self.start, [pieces[number] for number in self.lying(many) if number not in without])


class Histories(Case):
    def same(self, history, plain):
        self.assertEqual(history.now, Order(plain.order()))
        self.assertIs(type(history.lying), tuple)
        self.assertEqual(history.lying, plain.lying())
        self.assertEqual(history.deeds, len(plain.done))

    def all_same(self, chance, history, plain):
        self.same(history, plain)
        for number in range(len(plain.done) + 1):
            self.assertEqual(history.as_of(number), Order(plain.order(number)))
        for number, piece in enumerate(plain.pieces()):
            self.assertEqual(history.piece(number), piece)
        lying = plain.lying()
        for many in (0, 1, 2, len(lying)):
            named = chance.sample(lying, min(many, len(lying)))
            self.assertEqual(history.without(*named), Order(plain.order(without=named)))
            self.assertEqual(history.without(*named, *named), Order(plain.order(without=named)))
        self.same(history, plain)

    def deed(self, chance, marks, history, plain):
        lying = plain.lying()
        gone = [number for number in range(len(plain.pieces())) if number not in lying]
        word = chance.choice(("put", "take_back", "restore"))
        if word == "put" and len(plain.pieces()) < 60:
            piece = Piece(some_saying(chance, marks, usual=True), chance.choice((1, 2, 5, GREATEST)))
            self.assertEqual(history.put(piece.saying, piece.force), len(plain.pieces()))
            plain.done.append((word, piece))
        elif word == "take_back" and lying:
            number = chance.choice(lying)
            self.assertIsNone(history.take_back(number))
            plain.done.append((word, number))
        elif word == "restore" and gone:
            number = chance.choice(gone)
            self.assertIsNone(history.restore(number))
            plain.done.append((word, number))

    def test_7_4_against_a_plain_list_of_deeds(self):
        chance = seeded(74)
        for marks in (ONE, TWO, THREE, FOUR):
            for _ in range(8):
                start = some_start(chance, marks.days)
                history, plain = History(start), Plain(start.layers)
                self.all_same(chance, history, plain)
                for _ in range(40):
                    self.deed(chance, marks, history, plain)
                    self.same(history, plain)
                self.all_same(chance, history, plain)

    def test_7_4_each_deed_taken_back_and_put_back(self):
        chance = seeded(741)
        for _ in range(10):
            history = History(some_start(chance, 4))
            for _ in range(8):
                history.put(some_saying(chance, TWO, usual=True), chance.randint(1, 9))
            now = history.now
            for number in chance.sample(range(8), 8):
                without = history.without(number)
                history.take_back(number)
                self.assertEqual(history.now, without)
                history.restore(number)
                self.assertEqual((history.now, history.lying), (now, tuple(range(8))))
            self.assertEqual(history.deeds, 24)
            for number in chance.sample(range(8), 8):
                history.take_back(number)
            self.assertEqual((history.now, history.lying), (history.as_of(0), ()))
            for number in chance.sample(range(8), 8):
                history.restore(number)
            self.assertEqual((history.now, history.lying), (now, tuple(range(8))))

    def test_7_4_start(self):
        for thing in STRANGE + ((0, 1), [0, 1], 2, "order"):
            self.refuses(BadStart(), History, thing)
        history = History(Order((0, 5)))
        self.assertEqual((history.now, history.lying, history.deeds), (Order((0, 5)), (), 0))
        self.assertEqual(history.as_of(0), Order((0, 5)))
        self.assertEqual(history.without(), Order((0, 5)))

    def test_7_4_put(self):
        history = History(Order.flat(4))
        for saying in (None, 3, (3, 1), Saying(3, 1, False), Saying(65535, 1, False)):
            self.refuses(BadPiece("saying"), history.put, saying, 0)
        for force in STRANGE + (0, GREATEST + 1):
            self.refuses(BadPiece("force"), history.put, Saying(16, 1), force)
        for saying in (Saying(16, 1), Saying(1, 16), Saying(65535, 3)):
            self.refuses(OtherDays(), history.put, saying, 1)
        self.assertEqual((history.deeds, history.lying, history.now), (0, (), Order.flat(4)))
        self.assertEqual(history.put(Saying(15, 1), 1), 0)
        self.assertEqual(history.put(Saying(15, 1), 1), 1)
        self.assertEqual(history.now.layers, (0, 2, 2, 2))

    def test_7_4_sixty_pieces_and_one_more(self):
        history = History(Order.flat(4))
        for number in range(60):
            self.assertEqual(history.put(Saying(15, 1), GREATEST), number)
            if number % 2:
                history.take_back(number)
        now = history.now
        for _ in range(2):
            self.refuses(TooMany(61), history.put, Saying(15, 1), 1)
        self.refuses(OtherDays(), history.put, Saying(16, 1), 1)
        self.refuses(BadPiece("force"), history.put, Saying(15, 1), 0)
        self.assertEqual((history.deeds, history.now, len(history.lying)), (90, now, 30))
        self.refuses(NoPiece(60), history.restore, 60)
        for number in range(1, 60, 2):
            history.restore(number)
        self.assertEqual((history.now.layers, history.deeds), ((0,) + (60 * GREATEST,) * 3, 120))

    def test_7_4_no_piece(self):
        history = History(Order.flat(4))
        for number in range(3):
            history.put(Saying(15, 1), 1)
        history.take_back(1)
        for thing in STRANGE + (3, 60, 10 ** 20, 1.0):
            for ask in (history.take_back, history.restore, history.piece, history.without):
                self.refuses(NoPiece(thing), ask, thing)
        self.refuses(NoPiece(1), history.take_back, 1)
        self.refuses(NoPiece(0), history.restore, 0)
        self.refuses(NoPiece(2), history.restore, 2)
        self.refuses(NoPiece(1), history.without, 0, 1, 7)
        self.refuses(NoPiece(7), history.without, 0, 7, 1)
        self.assertEqual((history.deeds, history.lying), (4, (0, 2)))
        self.assertEqual(history.piece(1), Piece(Saying(15, 1), 1))
        empty = History(Order.flat(2))
        for ask in (empty.take_back, empty.restore, empty.piece, empty.without):
            self.refuses(NoPiece(0), ask, 0)

    def test_7_5_no_deed(self):
        history = History(Order.flat(4))
        history.put(Saying(15, 1), 1)
        history.take_back(0)
        for thing in STRANGE + (3, 10 ** 20, 1.0):
            self.refuses(NoDeed(thing), history.as_of, thing)
        self.assertEqual([history.as_of(number).layers for number in range(3)], [(0,) * 4, (0, 1, 1, 1), (0,) * 4])
        self.refuses(NoDeed(1), History(Order.flat(2)).as_of, 1)

    def test_7_5_asking_changes_nothing(self):
        history = History(Order((0, 1, 2, 3)))
        history.put(Saying(15, 8), 5)
        for _ in range(2):
            self.assertEqual(history.without(0), Order((0, 1, 2, 3)))
            self.assertEqual(history.as_of(0), Order((0, 1, 2, 3)))
            self.assertEqual(history.piece(0).force, 5)
            self.assertEqual((history.now.layers, history.lying, history.deeds), ((2, 3, 4, 0), (0,), 1))

    def test_7_5_only_what_lies_counts(self):
        one, other = History(Order.flat(4)), History(Order.flat(4))
        sayings = [Saying(15, 1), Saying(15, 12), Saying(3, 2)]
        for history in (one, other):
            for number, saying in enumerate(sayings):
                history.put(saying, number + 1)
        one.take_back(0)
        other.take_back(2)
        other.take_back(0)
        other.restore(2)
        self.assertEqual((one.now, one.lying), (other.now, other.lying))

    def test_example_of_part_7(self):
        H = History(Order.flat(4))
        self.assertEqual((H.put(Saying(15, 10), 2), H.put(Saying(15, 12), 1), H.now.layers), (0, 1, (3, 1, 2, 0)))
        H.take_back(0)
        self.assertEqual((H.now.layers, H.as_of(1).layers, H.without(1).layers, H.lying, H.deeds),
                         ((1, 1, 0, 0), (2, 0, 2, 0), (0, 0, 0, 0), (1,), 3))
