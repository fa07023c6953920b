"""Points 4 and 5 for orders, faults, late joiners, logs, sessions and texts: within the limits, on books that fill them."""

import random
import sys
import unittest

from sharedboard.books import Book
from sharedboard.deeds import deed_class, done
from sharedboard.errors import BoardError
from sharedboard.faultjudges import fault_run_fault, healed_fault
from sharedboard.faults import fault_after, fault_entries, fault_run, healed, healing
from sharedboard.late import after, entries, last_claims, late_run, level, when_sure
from sharedboard.latejudges import from_fault, late_fault
from sharedboard.logs import pressed, same_end, struck, undone
from sharedboard.orders import alike_weavings, conflict_shown, conflicts, normal, weaves
from sharedboard.senders import Sender, free
from sharedboard.sessions import Session
from sharedboard.spaces import Space
from sharedboard.texts import book_text, read_book
from test_limits import NestedTest as Nested
from test_limits import full_book, long_book

FAULTS = ("lost", "exchanged")


def every_way(book):
    """Return a sender of two states with all the ways that there can be."""
    ways = [(cls, state) for cls, _ in free(book).ways(0) for state in (0, 1)]
    return Sender(book, [ways, ways])


def some_ways(book):
    running = [cls for cls, _ in free(book).ways(0)]
    return Sender(book, [[(running[0], 0), (running[-1], 1)], [(running[0], 0), (running[1], 1)]])


class FullTest(unittest.TestCase):
    def check_orders(self, book):
        found = conflicts(book)
        self.assertEqual(alike_weavings(book, found), ("alike",))
        _, one, other = alike_weavings(book, found[1:])
        self.assertTrue(weaves(book, found[1:], one, other))
        self.assertFalse(same_end(book, one, other))
        history, one, other = conflict_shown(book, *found[-1])
        self.assertEqual((deed_class(book, one), deed_class(book, other)), found[-1])
        self.assertNotEqual(done(book, [*history, one, other]), done(book, [*history, other, one]))
        self.assertEqual(normal(book, found, [one, other] * 100), [one, other] * 100)
        self.assertTrue(same_end(book, [one, other], struck(book, [one, other])))
        self.assertTrue(same_end(book, [one, other] * 5, pressed(book, [one, other] * 5)))
        undone(book, [one, other] * 60, 77, [one, other] * 3)

    def check_faults(self, book, sender):
        for fault in FAULTS:
            told = healed(book, sender, fault)
            tables = [fault_entries(book, sender, fault), fault_after(book, sender, fault, 200)]
            self.assertTrue(all(space.width() == 7 for table in tables for space in table.values()))
            if told[0] == "from":
                self.assertIsNone(healed_fault(book, sender, fault, told[2]))
            for many in (0, 200):
                found = fault_run(book, sender, fault, many)
                self.assertEqual(found is None, told[0] == "from" and told[1] <= many)
                if found is not None:
                    self.assertIsNone(fault_run_fault(book, sender, fault, many, found))
            numbers = [k for _, k in healing(book, sender, fault)]
            self.assertEqual(told[:2], ("never",) if None in numbers else ("from", max(numbers)))

    def check_late(self, book, sender):
        claims = level(book, sender, [0, 1, 2])
        told = when_sure(book, sender, claims)
        tables = [after(book, sender, many) for many in (0, 1, 2, 14)]
        self.assertEqual(tables[0], entries(book, sender))
        everything = Space(7, [[int(i == j) for j in range(7)] for i in range(7)])
        whole = [{state: everything for state in range(sender.states())} for _ in range(201)]
        self.assertIsNone(from_fault(book, sender, [[] for _ in claims], 200, whole))
        self.assertEqual(from_fault(book, sender, claims, 200, whole), ("claim", 200))
        for many in (0, 200):
            found = late_run(book, sender, claims, many)
            self.assertEqual(found is None, told[0] == "from" and told[1] <= many)
            if found is not None:
                self.assertIsNone(late_fault(book, sender, claims, many, found))
        for state, space in last_claims(book, sender).items():
            self.assertEqual(len(space), 7 - len(tables[3].get(state, [])))

    def check(self, book, senders):
        self.check_orders(book)
        for sender in senders:
            self.check_faults(book, sender)
            self.check_late(book, sender)
        self.assertTrue(read_book(book_text(book)) == book)

    def test_a_full_book(self):
        book = full_book()
        self.check(book, [every_way(book)])

    def test_a_book_with_long_runs(self):
        book = long_book()
        self.check(book, [free(book), some_ways(book)])


class NumberTest(unittest.TestCase):
    def test_spaces_and_claims_with_numbers_of_2000_digits(self):
        source = random.Random(2)
        book = full_book()
        sender = every_way(book)

        def vectors(many):
            return [[source.randint(-(10 ** 2000) + 1, 10 ** 2000 - 1) for _ in range(7)] for _ in range(many)]

        whole = Space(7, [[int(i == j) for j in range(7)] for i in range(7)])
        part = {0: Space(7, vectors(3)), 1: Space(7, vectors(1))}
        tables = [{0: whole, 1: whole}, {0: whole, 1: whole}, part]
        self.assertEqual(healed_fault(book, sender, "lost", tables), ("next", 1))
        self.assertEqual(healed_fault(book, sender, "lost", [part]), ("entries",))
        claims = [vectors(7), vectors(7)]
        self.assertEqual(from_fault(book, sender, claims, 1, tables), ("next", 1))
        self.assertEqual(from_fault(book, sender, claims, 0, tables[:2]), ("claim", 0))
        self.assertEqual(when_sure(book, sender, claims)[0], "never")
        for many in (0, 200):
            self.assertIsNone(late_fault(book, sender, claims, many, late_run(book, sender, claims, many)))

    def test_deeds_with_numbers_of_60_digits(self):
        big = 10 ** 60 - 1
        book = Book(3, [[("again", [("set", 0, [9, 0, 9, 9, 9])])], [("set", 1, [0, 9, 9, 0, -9])]])
        history = [(0, [1] * 199 + [0], big - k) for k in range(5)] + [(1, [], -big + k) for k in range(5)]
        self.assertEqual(pressed(book, history), history[4:])
        self.assertEqual(normal(book, [], history[::-1]), sorted(history))
        self.assertTrue(same_end(book, history * 10, history * 9 + history[4:]))
        self.assertEqual(undone(book, history, 3, [(1, [], 1)]), [])
        one = Session(book, free(book), replicas=3, order=[])
        for deed in history * 6:
            one += deed
        one.settle()
        self.assertTrue(one.level())
        self.assertEqual(one[0], done(book, history * 6))
        one.join((big, -big, big))
        self.assertEqual(one.tried(lambda given: given.log()), history * 6)

    def setUp(self):
        self.digits = None
        if hasattr(sys, "get_int_max_str_digits"):
            self.digits = sys.get_int_max_str_digits()
            sys.set_int_max_str_digits(640)

    def tearDown(self):
        if self.digits is not None:
            sys.set_int_max_str_digits(self.digits)


class NestedTest(unittest.TestCase):
    def test_each_argument_that_may_be_any_thing(self):
        book = full_book()
        sender = free(book)
        one = Session(book, sender)
        for thing in Nested().things():
            self.assertEqual(healed_fault(book, sender, "lost", thing), ("form",))
            self.assertEqual(healed_fault(book, sender, "lost", [thing]), ("entries",) if thing == {} else ("form",))
            self.assertEqual(fault_run_fault(book, sender, "lost", 1, thing), ("form",))
            self.assertEqual(fault_run_fault(book, sender, "lost", 1, (thing, thing)), ("form",))
            self.assertEqual(from_fault(book, sender, [[]], 0, thing), ("form",))
            self.assertEqual(late_fault(book, sender, [[]], 1, thing), ("form",))
            self.assertEqual(late_fault(book, sender, [[]], 1, ([], thing, thing)), ("form",))
            if thing == []:
                continue
            for action in (
                lambda thing: conflict_shown(book, thing, (0, 0)), lambda thing: conflict_shown(book, (0, 0), thing),
                lambda thing: weaves(book, thing, [], []), lambda thing: weaves(book, [], thing, []), lambda thing: normal(book, [thing], []),
                lambda thing: normal(book, [], [thing]), lambda thing: alike_weavings(book, thing), lambda thing: healed(book, sender, thing),
                lambda thing: fault_after(book, sender, "lost", thing), lambda thing: fault_run(book, sender, thing, thing),
                lambda thing: healing(book, sender, thing), lambda thing: fault_entries(book, sender, thing),
                lambda thing: after(book, sender, thing), lambda thing: level(book, sender, thing), lambda thing: when_sure(book, sender, thing),
                lambda thing: late_run(book, sender, [[thing]], 0), lambda thing: from_fault(book, sender, [[]], thing, []),
                lambda thing: same_end(book, thing, []), lambda thing: pressed(book, thing), lambda thing: struck(book, thing),
                lambda thing: undone(book, [one], thing, []), lambda thing: Session(book, sender, replicas=thing),
                lambda thing: Session(book, sender, order=thing), lambda thing: one.send(thing), lambda thing: one.deliver(thing),
                lambda thing: one.deliver(0, at=thing), lambda thing: one.lose(thing), lambda thing: one.join(thing), lambda thing: one[thing],
                lambda thing: one.mail(thing), lambda thing: read_book(thing),
            ):
                with self.assertRaises(BoardError):
                    action(thing)
        self.assertTrue(one == Session(book, sender))


class DepthTest(unittest.TestCase):
    def test_deep_calls_need_no_deep_recursion(self):
        book = Book(1, [[("either", [], [("keep", [], [("set", 0, [1, 1, 0]), ("call", 0, [1, 0, 1], [[], []])])])]])
        deed = (0, [1] * 4000 + [0], 1)
        sender = free(book)
        limit = sys.getrecursionlimit()
        sys.setrecursionlimit(400)
        try:
            self.assertEqual(normal(book, [], [deed, deed]), [deed, deed])
            self.assertTrue(same_end(book, [deed], [(0, [1] * 2000 + [0], 1)] * 2))
            self.assertEqual(pressed(book, [deed]), [deed])
            one = Session(book, sender)
            one += deed
            one.settle()
            self.assertEqual(one[1], (4000,))
            self.assertEqual(fault_run_fault(book, sender, "exchanged", 1, ([deed, deed], [deed])), ("kept",))
            self.assertEqual(conflicts(long_book())[0], ((0, 0), (0, 0)))
            self.assertIsNotNone(fault_run(long_book(), free(long_book()), "exchanged", 200))
            self.assertIsNotNone(late_run(full_book(), free(full_book()), level(full_book(), free(full_book()), [0]), 200))
            self.assertTrue(read_book(book_text(full_book())) == full_book())
        finally:
            sys.setrecursionlimit(limit)


if __name__ == "__main__":
    unittest.main()
