"""Point 45: sessions."""

import copy
import inspect
import random
import unittest

import reference
from sendertools import random_case
from sharedboard.books import Book
from sharedboard.deeds import done
from sharedboard.equations import strikes
from sharedboard.errors import (
    BoardError, Held, NoBoard, NoDeed, NoIndex, NoMany, NoOrder, NoReplica, NotLet, TooMany,
)
from sharedboard.orders import conflicts
from sharedboard.senders import Sender, free
from sharedboard.sessions import Session
from test_logs import small_book

A, B, C = (0, 0), (1, 0), (2, 0)
NO_REPLICAS = (None, True, False, -1, 2, 10 ** 30, "0", [0], (0,), {})
NO_INDEXES = (None, True, False, -1, 3, 10 ** 30, "0", [0], (0,), {})
NO_DEEDS = (None, 0, "", (), [], {}, (0, []), (0, [], 1, 2), [0, [], 1], (3, [], 1), (0, [0], 1), (0, (), 1), (0, [], True), (True, [], 1))


def a(n):
    return 0, [], n


def b(n):
    return 1, [], n


c = (2, [], 0)


def session(*deeds, **more):
    """Return a session of the small book with deeds that were sent: A adds n, B sets to n, C exchanges both cells."""
    book = small_book()
    made = Session(book, free(book), **more)
    for deed in deeds:
        made.send(deed)
    return made


def told(one):
    """Return all that can be seen of a session."""
    return [one[k] for k in range(len(one))], [one.mail(k) for k in range(len(one))], one.log(), one.level()


class StartTest(unittest.TestCase):
    def test_the_start(self):
        one = session()
        self.assertEqual(len(one), 2)
        self.assertEqual(told(one), ([(0, 0), (0, 0)], [[], []], [], True))
        for many in (1, 2, 3, 4):
            self.assertEqual(told(session(replicas=many)), ([(0, 0)] * many, [[]] * many, [], True))

    def test_no_many_goes_ahead_of_no_order(self):
        book = small_book()
        for replicas in (0, 5, -1, True, None, "2", [2], (2,), {}, 10 ** 30):
            for order in (None, [], 0):
                with self.subTest(replicas=replicas), self.assertRaises(NoMany):
                    Session(book, free(book), replicas=replicas, order=order)
        for order in (0, False, "", (), {}, [A], [(B, A)], [(A, B), (A, B)], [(A, (3, 0))], [[A, B]], [(A, B), None]):
            with self.subTest(order=order), self.assertRaises(NoOrder):
                Session(book, free(book), order=order)
            with self.assertRaises(NoOrder):
                Session(book, free(book), replicas=4, order=order)

    def test_the_arguments_stand_behind_a_star(self):
        book = small_book()
        with self.assertRaises(TypeError):
            Session(book, free(book), 2)
        with self.assertRaises(TypeError):
            session(a(1)).deliver(0, 0)
        found = inspect.signature(Session.__init__).parameters
        self.assertEqual((found["replicas"].default, found["order"].default), (2, None))


class SendTest(unittest.TestCase):
    def test_log_and_mails(self):
        one = session(replicas=3)
        self.assertIsNone(one.send(a(1)))
        self.assertIsNone(one.send(b(2)))
        self.assertEqual(told(one), ([(0, 0)] * 3, [[a(1), b(2)]] * 3, [a(1), b(2)], False))

    def test_iadd_keeps_the_object(self):
        one = session()
        same = one
        one += a(1)
        self.assertIs(one, same)
        one += c
        self.assertEqual(same.log(), [a(1), c])

    def test_no_deed(self):
        one = session(a(1))
        before = told(one)
        for deed in NO_DEEDS:
            with self.subTest(deed=deed):
                with self.assertRaises(NoDeed):
                    one.send(deed)
                with self.assertRaises(NoDeed):
                    one += deed
        self.assertEqual(told(one), before)

    def test_not_let(self):
        book = small_book()
        one = Session(book, Sender(book, [[(A, 0), (B, 1)], [(C, 0)]]))
        for deed, let in ((c, False), (a(1), True), (c, False), (b(1), True), (a(1), False), (b(1), False), (c, True), (a(2), True)):
            before = told(one)
            if let:
                one.send(deed)
                self.assertEqual(one.log(), [*before[2], deed])
                continue
            with self.assertRaises(NotLet):
                one.send(deed)
            with self.assertRaises(NotLet):
                one += deed
            self.assertEqual(told(one), before)
        with self.assertRaises(NoDeed):
            one.send((2, [0], 0))

    def test_several_ways_of_one_class(self):
        book = small_book()
        one = Session(book, Sender(book, [[(A, 0), (A, 1)], [(B, 1)]]))
        for deed in (a(1), a(2), b(3), b(4)):
            one += deed
        self.assertRaises(NotLet, one.send, a(5))

    def test_a_lost_deed_stays_in_the_log(self):
        book = small_book()
        one = Session(book, Sender(book, [[(A, 1)], [(B, 1)]]))
        one += a(1)
        one.lose(0)
        one.lose(1)
        self.assertRaises(NotLet, one.send, a(1))
        one += b(1)
        self.assertEqual((one.log(), one.mail(0)), ([a(1), b(1)], [b(1)]))


class DeliverTest(unittest.TestCase):
    def test_in_order(self):
        one = session(a(5), b(7), c)
        self.assertIsNone(one.deliver(1))
        self.assertEqual(told(one), ([(0, 0), (5, 0)], [[a(5), b(7), c], [b(7), c]], [a(5), b(7), c], False))
        one.deliver(1, at=0)
        one.deliver(1)
        self.assertEqual((one[0], one[1], one.mail(1)), ((0, 0), (0, 7), []))

    def test_at_with_the_empty_order(self):
        for at, board, mail in ((0, (5, 0), [b(7), c]), (1, (7, 0), [a(5), c]), (2, (0, 0), [a(5), b(7)])):
            one = session(a(5), b(7), c, order=[])
            one.deliver(0, at=at)
            self.assertEqual((one[0], one.mail(0), one.mail(1)), (board, mail, [a(5), b(7), c]))
        one = session(a(5), b(7), c, order=[])
        for at in (2, 1, 0):
            one.deliver(0, at=at)
        self.assertEqual((one[0], one.mail(0)), ((12, 0), []))

    def test_held_without_an_order(self):
        one = session(a(5), a(7), a(7))
        before = told(one)
        for at in (1, 2):
            self.assertRaises(Held, one.deliver, 0, at=at)
        self.assertEqual(told(one), before)

    def test_held_by_an_order(self):
        deeds = [a(5), b(7), c, a(2), b(1)]
        held = {
            ((A, B),): [False, True, False, True, True], ((A, A),): [False, False, False, True, False],
            ((B, B),): [False, False, False, False, True], ((A, C), (B, C)): [False, False, True, True, True],
            ((C, C),): [False] * 5, ((A, (1, 1)), ((0, 1), B)): [False] * 5,
        }
        for order, expected in held.items():
            for at in range(5):
                one = session(*deeds, order=list(order))
                if expected[at]:
                    before = told(one)
                    self.assertRaises(Held, one.deliver, 1, at=at)
                    self.assertEqual(told(one), before)
                else:
                    one.deliver(1, at=at)
                    self.assertEqual(one.mail(1), deeds[:at] + deeds[at + 1:])
                    self.assertEqual(one[1], done(small_book(), [deeds[at]]))

    def test_errors_in_their_order(self):
        one = session(a(1), b(2), c)
        before = told(one)
        for replica in NO_REPLICAS:
            for at in (0, 1, *NO_INDEXES):
                with self.subTest(replica=replica), self.assertRaises(NoReplica):
                    one.deliver(replica, at=at)
            with self.assertRaises(NoReplica):
                one.deliver(replica)
        for at in NO_INDEXES:
            with self.subTest(at=at), self.assertRaises(NoIndex):
                one.deliver(0, at=at)
        self.assertEqual(told(one), before)
        with self.assertRaises(NoIndex):
            session().deliver(1)
        late = session(a(1))
        self.assertRaises(NoReplica, late.deliver, late.join((1, 1)) + 1)
        self.assertRaises(NoIndex, late.deliver, 2)

    def test_against_boards_by_the_words(self):
        for seed in range(40):
            source, book, sender = random_case(seed)
            if sender is None:
                continue
            one = Session(book, sender, replicas=3, order=[])
            boards, mails = [(0,) * book.cells() for _ in range(3)], [[], [], []]
            for _ in range(25):
                replica = source.randrange(3)
                deed = (source.randrange(2), reference.random_bits(source, book.cells(), book.bodies(), 0), source.randint(-3, 3))
                try:
                    one.send(deed)
                    for mail in mails:
                        mail.append(deed)
                except (NoDeed, NotLet):
                    pass
                if mails[replica]:
                    at = source.randrange(len(mails[replica]))
                    one.deliver(replica, at=at)
                    procedure, bits, n = mails[replica].pop(at)
                    boards[replica] = reference.executed(book.cells(), book.bodies(), procedure, bits, boards[replica], n)[1]
                self.assertEqual(([one[k] for k in range(3)], [one.mail(k) for k in range(3)]), (boards, mails))


class LoseAndExchangeTest(unittest.TestCase):
    def test_lose(self):
        one = session(a(1), b(2), c)
        self.assertIsNone(one.lose(0))
        self.assertEqual(told(one), ([(0, 0)] * 2, [[b(2), c], [a(1), b(2), c]], [a(1), b(2), c], False))
        one.lose(0)
        one.lose(0)
        self.assertEqual(one.mail(0), [])
        before = told(one)
        self.assertRaises(NoIndex, one.lose, 0)
        self.assertEqual(told(one), before)

    def test_exchange(self):
        one = session(a(1), b(2), c)
        self.assertIsNone(one.exchange(1))
        self.assertEqual(told(one), ([(0, 0)] * 2, [[a(1), b(2), c], [b(2), a(1), c]], [a(1), b(2), c], False))
        one.deliver(1)
        one.deliver(1)
        self.assertEqual(one[1], (3, 0))
        before = told(one)
        self.assertRaises(NoIndex, one.exchange, 1)
        one.lose(1)
        self.assertRaises(NoIndex, one.exchange, 1)
        self.assertEqual(told(one)[2], before[2])

    def test_neither_looks_at_the_order(self):
        every = [(x, y) for x in (A, B, C) for y in (A, B, C) if x <= y]
        for order in (None, every):
            one = session(a(1), b(2), c, order=order)
            one.exchange(0)
            one.lose(0)
            self.assertEqual(one.mail(0), [a(1), c])
            # Who is ahead now must stay ahead.
            self.assertRaises(Held, one.deliver, 0, at=1)

    def test_no_replica(self):
        one = session(a(1), b(2))
        before = told(one)
        for replica in NO_REPLICAS:
            for act in (one.lose, one.exchange, one.mail, lambda replica: one[replica]):
                with self.subTest(replica=replica), self.assertRaises(NoReplica):
                    act(replica)
        self.assertEqual(told(one), before)


class JoinTest(unittest.TestCase):
    def test_join(self):
        one = session(a(1), replicas=1)
        self.assertEqual(one.join((7, 8)), 1)
        self.assertEqual(one.join((0, -1)), 2)
        one += b(3)
        self.assertEqual(told(one), ([(0, 0), (7, 8), (0, -1)], [[a(1), b(3)], [b(3)], [b(3)]], [a(1), b(3)], False))
        one.settle()
        self.assertEqual(told(one)[0], [(3, 0), (3, 8), (3, -1)])
        self.assertFalse(one.level())
        self.assertEqual(len(one), 3)

    def test_no_board_goes_ahead_of_too_many(self):
        for many in (1, 3, 4):
            one = session(replicas=many)
            for board in (None, 0, "", (), (1,), (1, 2, 3), [1, 2], (True, 0), (1, None), {}, True):
                with self.subTest(board=board), self.assertRaises(NoBoard):
                    one.join(board)
            self.assertEqual(len(one), many)
        with self.assertRaises(TooMany) as caught:
            one.join((1, 2))
        self.assertEqual((caught.exception.many, len(one)), (4, 4))

    def test_up_to_four(self):
        one = session(replicas=2)
        self.assertEqual([one.join((0, 0)), one.join((1, 1))], [2, 3])
        self.assertRaises(TooMany, one.join, (0, 0))
        self.assertRaises(NoReplica, one.mail, 4)


class SettleTest(unittest.TestCase):
    def test_settle(self):
        for order in (None, [], [(A, B)]):
            one = session(a(1), b(2), c, a(5), replicas=3, order=order)
            one.deliver(1)
            one.lose(2)
            self.assertIsNone(one.settle())
            self.assertEqual(told(one), ([(5, 2)] * 3, [[], [], []], [a(1), b(2), c, a(5)], True))
            one.settle()
            self.assertTrue(one.level())

    def test_level(self):
        one = session(a(1), replicas=2)
        self.assertFalse(one.level())
        one.deliver(0)
        self.assertFalse(one.level())
        one.lose(1)
        self.assertFalse(one.level())
        self.assertTrue(session(replicas=1).level())
        self.assertFalse(session(a(0), replicas=1).level())
        one = session()
        one.join((0, 0))
        self.assertIs(one.level(), True)
        one.join((0, 1))
        self.assertIs(one.level(), False)


class NewTest(unittest.TestCase):
    def test_what_is_returned_is_new(self):
        one = session(a(1), a(1), c)
        kept = copy.deepcopy(told(one))
        for find in (one.log, lambda: one.mail(0)):
            first = find()
            self.assertEqual(len({id(bits) for _, bits, _ in first}), 3)
            first[0][1].append(1)
            first.clear()
        self.assertEqual(told(one), kept)

    def test_what_was_handed_in_is_changed_afterwards(self):
        order, bits = [(A, B), (B, B)], []
        book = small_book()
        one = Session(book, free(book), order=order)
        one.send((0, bits, 1))
        one += (1, bits, 2)
        order.clear()
        bits.append(0)
        self.assertEqual(one.log(), [a(1), b(2)])
        self.assertRaises(Held, one.deliver, 0, at=1)
        one.settle()
        self.assertEqual(one[0], (2, 0))

    def test_the_arguments_stay(self):
        order, deed = [(A, B)], (0, [], 1)
        one = Session(small_book(), free(small_book()), order=order)
        one.send(deed)
        one.settle()
        self.assertEqual((order, deed), ([(A, B)], (0, [], 1)))


class TriedTest(unittest.TestCase):
    def test_all_is_put_back(self):
        one = session(a(1), b(2), c, replicas=2, order=[])
        before, seen = told(one), []

        def action(given):
            self.assertIs(given, one)
            given.deliver(0, at=2)
            given.lose(1)
            given.exchange(1)
            given.send(a(9))
            given.join((4, 4))
            given.settle()
            given += b(1)
            seen.append(told(given))
            return "done"

        self.assertEqual(one.tried(action), "done")
        self.assertEqual(told(one), before)
        self.assertEqual((len(one), len(seen[0][0])), (2, 3))
        self.assertEqual(seen[0][2], [a(1), b(2), c, a(9), b(1)])

    def test_whatever_the_function_returns(self):
        one = session(a(1))
        for value in (None, True, 0, "x", [1, [2]], (3, {}), {"a": [1]}, one):
            self.assertIs(one.tried(lambda given: value), value)
        self.assertEqual(one.tried(lambda given: given.log()), [a(1)])

    def test_errors_go_on_to_the_caller(self):
        one = session(a(1), b(2))
        before = told(one)

        def fails(error):
            def action(given):
                given.settle()
                given.join((1, 1))
                raise error
            return action

        for error in (NoDeed(), Held(), TooMany(3), ValueError("x"), KeyError(1), ZeroDivisionError(), RuntimeError()):
            with self.assertRaises(type(error)) as caught:
                one.tried(fails(error))
            self.assertIs(caught.exception, error)
            self.assertEqual(told(one), before)
        with self.assertRaises(NoReplica):
            one.tried(lambda given: [given.settle(), given.mail(7)])
        self.assertEqual(told(one), before)

    def test_one_within_another(self):
        one = session(a(1), b(2), replicas=2)
        before = told(one)

        def inner(given):
            given.settle()
            given.join((9, 9))
            raise KeyError("inner")

        def outer(given):
            given.deliver(0)
            middle = told(given)
            with self.assertRaises(KeyError):
                given.tried(inner)
            self.assertEqual(told(given), middle)
            self.assertEqual(given.tried(lambda again: (again.settle(), again[1])[1]), (2, 0))
            self.assertEqual(told(given), middle)
            given.deliver(0)
            return given[0]

        self.assertEqual(one.tried(outer), (2, 0))
        self.assertEqual(told(one), before)

    def test_what_comes_behind_it(self):
        book = small_book()
        one = Session(book, Sender(book, [[(A, 1)], [(B, 0)]]))
        one.tried(lambda given: given.send(a(1)))
        self.assertRaises(NotLet, one.send, b(1))
        one += a(2)
        one.settle()
        self.assertEqual(told(one), ([(2, 0)] * 2, [[], []], [a(2)], True))


class EqualTest(unittest.TestCase):
    def test_equal_sessions(self):
        self.assertTrue(session() == session())
        self.assertFalse(session() != session())
        self.assertTrue(session(a(1), c, order=[(A, B)]) == session(a(1), c, order=[(A, B)]))
        self.assertTrue(session(replicas=2) == session())
        one, other = session(a(1)), session(a(1))
        one.settle()
        self.assertFalse(one == other)
        other.settle()
        self.assertTrue(one == other)
        one = session(a(1))
        one.tried(lambda given: given.settle())
        self.assertTrue(one == session(a(1)))

    def test_sessions_that_differ_in_one_thing(self):
        book = small_book()
        other_book = Book(2, [*book.bodies()[:2], []])
        one = Session(book, free(book))
        self.assertFalse(one == Session(other_book, free(other_book)))
        self.assertFalse(one == Session(book, Sender(book, [[(A, 0), (B, 0)]])))
        self.assertFalse(one == session(order=[]))
        self.assertFalse(session(order=[]) == session(order=[(A, A)]))
        self.assertTrue(session(order=[]) == session(order=[]))
        self.assertFalse(one == session(replicas=3))
        self.assertFalse(one == session(a(1)))

    def test_boards_mails_and_logs(self):
        def lost_and_joined(*boards):
            made = session(a(1), a(2), replicas=1)
            made.lose(0)
            made.lose(0)
            for board in boards:
                made.join(board)
            return made

        self.assertTrue(lost_and_joined((1, 2)) == lost_and_joined((1, 2)))
        self.assertFalse(lost_and_joined((1, 2)) == lost_and_joined((1, 3)))
        self.assertFalse(lost_and_joined((1, 2)) == lost_and_joined((1, 2), (1, 2)))
        # The same log and boards, other mails.
        one, other = session(a(1), a(2)), session(a(1), a(2))
        one.exchange(0)
        self.assertFalse(one == other)
        other.exchange(0)
        self.assertTrue(one == other)
        # The same boards and mails, other logs.
        one, other = session(a(1)), session(a(1), a(0))
        one.settle()
        other.settle()
        self.assertFalse(one == other)
        # The same log and mails, other boards.
        one, other = session(a(1)), session(a(1))
        one.settle()
        other.lose(0)
        other.settle()
        self.assertFalse(one == other)


class FactTest(unittest.TestCase):
    def test_all_are_level_when_no_mail_is_left(self):
        unlike = 0
        for seed in range(120):
            source = random.Random(seed)
            _, book, sender = random_case(seed)
            if sender is None:
                continue
            found = conflicts(book)
            orders = [None, found, sorted({*found, *[(cls[0], cls[0]) for cls in strikes(book) if len(cls) == 1]}), []]
            log = [deed for deed in self.random_log(source, book) if deed is not None]
            for order in orders:
                one = Session(book, free(book), replicas=3, order=order)
                for deed in log:
                    one += deed
                self.deliver_all(source, one)
                if order == [] and found:
                    unlike += not one.level()
                else:
                    self.assertTrue(one.level())
        self.assertGreater(unlike, 10)

    def random_log(self, source, book):
        for _ in range(8):
            procedure = source.randrange(2)
            bits = reference.random_bits(source, book.cells(), book.bodies(), procedure)
            if isinstance(reference.executed(book.cells(), book.bodies(), procedure, bits), tuple):
                yield procedure, bits, source.randint(-3, 3)

    def deliver_all(self, source, one):
        while any(one.mail(replica) for replica in range(3)):
            replica = source.randrange(3)
            mail = one.mail(replica)
            if mail:
                try:
                    one.deliver(replica, at=source.randrange(len(mail)))
                except Held:
                    pass

    def test_sixty_deeds(self):
        source = random.Random(4)
        one = session(*[source.choice([a(10 ** 59 + 1), b(-(10 ** 59)), c]) for _ in range(60)], replicas=4, order=[])
        kept = copy.deepcopy(one.log())
        self.assertEqual(len(kept), 60)
        one.settle()
        self.assertEqual(one[3], done(small_book(), kept))
        self.assertTrue(one.level())
        self.assertTrue(issubclass(Held, BoardError))


if __name__ == "__main__":
    unittest.main()
