"""Numbers are counted with a modulus at first: the answers are right also if that misleads."""

import unittest
from unittest.mock import patch

from pairtools import bases, tables_behind
from sendertools import random_case
from sharedboard.deeds import done
from sharedboard.faultjudges import fault_run_fault
from sharedboard.faults import fault_after, fault_entries, fault_run, healed
from sharedboard.late import late_run, when_sure
from sharedboard.latejudges import late_fault
from sharedboard.logs import pressed, same_end, undone
from test_healing import healing_cases
from test_late import late_cases
from test_logs import alike, random_histories, small_book

# With 1 all numbers seem to be 0; with 3 every third one does.
MODULI = (1, 3)


class ModuliTest(unittest.TestCase):
    def test_runs_behind_which_nothing_is_healed(self):
        found = 0
        for book, sender in healing_cases(30):
            for fault in ("lost", "exchanged"):
                told = healed(book, sender, fault)
                for modulus in MODULI:
                    for many in (0, 3, 20):
                        with patch("sharedboard.faults.FIRST_MODULUS", modulus):
                            run = fault_run(book, sender, fault, many)
                        self.assertEqual(run is None, told[0] == "from" and told[1] <= many)
                        if run is not None:
                            self.assertIsNone(fault_run_fault(book, sender, fault, many, run))
                            found += 1
        self.assertGreater(found, 60)

    def test_runs_behind_which_a_claim_is_broken(self):
        found = 0
        for book, sender, claims in late_cases(40):
            told = when_sure(book, sender, claims)
            for modulus in MODULI:
                for many in (0, 2, 20):
                    with patch("sharedboard.joiners.FIRST_MODULUS", modulus):
                        run = late_run(book, sender, claims, many)
                    self.assertEqual(run is None, told[0] == "from" and told[1] <= many)
                    if run is not None:
                        self.assertIsNone(late_fault(book, sender, claims, many, run))
                        found += 1
        self.assertGreater(found, 60)

    def test_judges(self):
        for book, sender, claims in late_cases(30):
            for many in (0, 2):
                runs = fault_run(book, sender, "lost", many), late_run(book, sender, claims, many)
                for modulus in MODULI:
                    if runs[0] is not None:
                        with patch("sharedboard.faultjudges.FIRST_MODULUS", modulus):
                            self.assertIsNone(fault_run_fault(book, sender, "lost", many, runs[0]))
                    if runs[1] is not None:
                        with patch("sharedboard.latejudges.FIRST_MODULUS", modulus):
                            self.assertIsNone(late_fault(book, sender, claims, many, runs[1]))

    def test_logs(self):
        for modulus in MODULI:
            with patch("sharedboard.ends.FIRST_MODULUS", modulus):
                for _, book, history, _ in random_histories(60, 4):
                    self.assertEqual(same_end(book, history, history[::-1]), alike(book, history, history[::-1]))
                    found = pressed(book, history)
                    self.assertTrue(alike(book, found, history))
                    self.assertLessEqual(len(found), len(history))
                book = small_book()
                self.assertEqual(pressed(book, [(0, [], 3), (0, [], 6), (0, [], -3)]), [(0, [], 6)])
                self.assertEqual(undone(book, [(0, [], 3)], 0, [(0, [], 0), (0, [], 3), (0, [], -3)]), [(0, [], -3)])

    def test_tables(self):
        with patch("sharedboard.pairs.LONG_BITS", 0):
            for modulus in (2, 3):
                with patch("sharedboard.pairs.FIRST_MODULUS", modulus):
                    for seed in range(20):
                        _, book, sender = random_case(seed, 2)
                        if sender is not None:
                            tables = tables_behind(book, sender, bases(fault_entries(book, sender, "exchanged")), 5)
                            for many in (1, 2, 5):
                                self.assertEqual(bases(fault_after(book, sender, "exchanged", many)), tables[many])

    def test_products_in_the_place_of_steps(self):
        for _, book, history, _ in random_histories(80, 5):
            board = tuple(range(3, 3 + book.cells()))
            ends = done(book, history), done(book, history, board=board)
            with patch("sharedboard.deeds.LONG_BITS", -1), patch("sharedboard.deeds.MANY_STEPS", 0):
                self.assertEqual((done(book, history), done(book, history, board=board)), ends)


if __name__ == "__main__":
    unittest.main()
