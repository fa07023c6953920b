"""Points 46 and 47: books as texts."""

import random
import unittest

import reference
from samples import rich_bodies
from sharedboard.books import Book
from sharedboard.errors import NoBook, NoText
from sharedboard.texts import book_text, read_book

RICH = """cells 2
to 0
  set 1 1 -9 9 0
  call 2 0 0 0 1
  way 0
    call 0 2 0 0 0
    way 0
      end 1
    way 1
      carry 0 1 0 0
  way 1
    keep 0 1
      call 1 0 1 0 0
      way 0
      way 1
  end 0
  again
to 1
to 2
  either
    again
      either
        end 0
      or
        set 0 0 0 0 0
  or
  keep
  call 2 1 0 0 -1
  way 0
    end 1
  way 1"""


def text_by_the_words(cells, bodies):
    """Return the text of a book by the words of point 46."""
    lines = [f"cells {cells}"]

    def put(level, *items):
        lines.append(" " * (2 * level + 2) + " ".join(str(item) for item in items))

    def put_list(block, level):
        for statement in block:
            word, *more = statement
            if word == "set":
                put(level, word, more[0], *more[1])
            elif word == "carry":
                put(level, word, *more[0])
            elif word == "end":
                put(level, word, more[0])
            elif word == "keep":
                put(level, word, *more[0])
                put_list(more[1], level + 1)
            elif word == "again":
                put(level, word)
                put_list(more[0], level + 1)
            elif word == "either":
                put(level, word)
                put_list(more[0], level + 1)
                put(level, "or")
                put_list(more[1], level + 1)
            else:
                put(level, word, more[0], *more[1])
                for way in (0, 1):
                    put(level, "way", way)
                    put_list(more[2][way], level + 1)

    for procedure, body in enumerate(bodies):
        lines.append(f"to {procedure}")
        put_list(body, 0)
    return "\n".join(lines)


def random_books(many):
    for seed in range(many):
        cells, procedures = 1 + seed % 3, 1 + seed // 3 % 3
        yield Book(cells, reference.random_bodies(seed, cells, procedures, 9))


class BookTextTest(unittest.TestCase):
    def test_written_out(self):
        self.assertEqual(book_text(Book(2, rich_bodies())), RICH)
        self.assertEqual(book_text(Book(1, [[]])), "cells 1\nto 0")
        self.assertEqual(book_text(Book(3, [[], [("keep", [], [])], []])), "cells 3\nto 0\nto 1\n  keep\nto 2")
        self.assertEqual(book_text(Book(3, [[("keep", [0, 2], [("carry", [-1, 0, 9, -9, 3])])]])),
                         "cells 3\nto 0\n  keep 0 2\n    carry -1 0 9 -9 3")

    def test_each_kind_of_statement_at_each_level(self):
        for statement, text in (
            (("set", 0, [1, -2, 3]), ["set 0 1 -2 3"]), (("carry", [0, 0, -9]), ["carry 0 0 -9"]), (("end", 1), ["end 1"]), (("end", 0), ["end 0"]),
            (("keep", [], []), ["keep"]), (("keep", [0], []), ["keep 0"]), (("again", []), ["again"]), (("either", [], []), ["either", "or"]),
            (("call", 0, [4, 5, 6], [[], []]), ["call 0 4 5 6", "way 0", "way 1"]),
        ):
            block, ahead = [statement], []
            for level in range(4 if len(text) == 1 and text[0][:4] in ("set ", "carr", "end ") else 3):
                lines = ["cells 1", "to 0", *ahead, *[" " * (2 * level + 2) + line for line in text]]
                self.assertEqual(book_text(Book(1, [block])), "\n".join(lines))
                self.assertTrue(read_book("\n".join(lines)) == Book(1, [block]))
                ahead.append(" " * (2 * level + 2) + "again")
                block = [("again", block)]

    def test_random_books(self):
        for book in random_books(400):
            text = book_text(book)
            self.assertEqual(text, text_by_the_words(book.cells(), book.bodies()))
            self.assertTrue(read_book(text) == book)

    def test_a_full_book(self):
        body = [("either", [("either", [("either", [("end", 1)] * 2, [("end", 0)] * 2)], [("end", 1)] * 2)], [("end", 0)] * 3)]
        book = Book(1, [body, [("end", 0)] * 8, [("keep", [0], [("end", 0)] * 8), ("end", 1), ("end", 1), ("end", 1)]])
        self.assertTrue(read_book(book_text(book)) == book)


class ReadTest(unittest.TestCase):
    def fails(self, text, line):
        with self.subTest(text=text), self.assertRaises(NoText) as caught:
            read_book(text)
        self.assertEqual(caught.exception.line, line)

    def lines_fail(self, lines, line):
        self.fails("\n".join(lines), line)

    def test_no_string(self):
        for text in (None, 0, True, [], ["cells 1", "to 0"], (), {}, ("cells 1\nto 0",)):
            self.fails(text, -1)

    def test_the_first_line(self):
        for line in ("", " ", "cells", "cells ", "cells 0", "cells 4", "cells -1", "cells 01", "cells +1", "cells 1 ", " cells 1", "cells  1",
                     "cells 1 1", "cell 1", "Cells 1", "cells one", "cells 1_", "cells \t1", "cells\t1", "to 0", "cells 10", "cells \u0661", "cells 1\r"):
            self.fails(line, 0)
            self.fails(line + "\nto 0", 0)

    def test_the_lines_of_procedures(self):
        for line in ("", " ", "to", "to ", "to 1", "to 00", "to -0", "to 0 ", " to 0", "  to 0", "to  0", "To 0", "to\t0", "end 0", "  end 0", "cells 1"):
            self.lines_fail(["cells 1", line], 1)
            self.lines_fail(["cells 1", line, "to 0"], 1)
        for line in ("to 0", "to 2", "to 01", "to -1", "to", "end 0", " end 0", "   end 0", "    end 0", "or", "  or", "way 0", "  way 0", ""):
            self.lines_fail(["cells 1", "to 0", line], 2)
            self.lines_fail(["cells 1", "to 0", "  end 0", line, "to 1"], 3)
        self.lines_fail(["cells 1", "to 0", "to 1", "to 2", "to 3"], 4)
        self.lines_fail(["cells 1", "to 0", "to 1", "to 2", "  end 0", "to 0"], 5)

    def test_wrong_statements(self):
        for line in (
            "set", "set 0", "set 0 1 2", "set 0 1 2 3 4", "set 1 0 0 0", "set -1 0 0 0", "set 00 0 0 0", "set 0 0 0 10", "set 0 -10 0 0",
            "set 0 0 01 0", "set 0 0 0 -0", "set 0 +1 0 0", "set 0 1_0 0 0", "set 0 0  0 0", "set  0 0 0 0", "set 0 0 0 0 ", "set 0 0 0 x",
            "set 0 0 0 \u0663", "set 0 0 0 \u00b2", "set 0 0\t0 0", "set\t0 0 0 0", "set 0 0 0 0\t", "set 0 0 0 1.0", "set 0 0 0 -", "set 0 0 0 --1",
            "set 0,0 0 0", "set 0 0 0 0\r", "set 0 0 0 " + "9" * 5000, "SET 0 0 0 0", "sets 0 0 0 0",
            "carry", "carry 0 0", "carry 0 0 0 0", "carry 0 0 10", "carry  0 0 0", "carry 0 0 -0", "carry 0 0 ",
            "keep 1", "keep 0 0", "keep -1", "keep 00", "keep ", "keep 0 ", "keep  0", "keep x", "keep 0 1",
            "either ", "either 0", "either or", "again ", "again 1", "again again",
            "call", "call 0", "call 0 0 0", "call 3 0 0 0", "call -1 0 0 0", "call 0 0 0 0 0", "call 0 0 0 10", "call 0 0 0 0 ", "call 00 0 0 0",
            "end", "end ", "end 2", "end -1", "end 00", "end 0 0", "end  0", "end -0", "end +1", "end 1 ", "End 0", "ends 0",
            "or", "way 0", "way 1", "to 1", "cells 1", "", " ", "  ", "x", "0",
        ):
            for level, ahead in ((0, []), (1, ["again"]), (3, ["again", "either", "keep 0"])):
                lines = ["cells 1", "to 0", *["  " * (k + 1) + word for k, word in enumerate(ahead)]]
                wrong = "  " * (level + 1) + line
                self.lines_fail([*lines, wrong], len(lines))
                self.lines_fail([*lines, wrong, "to 1", "", "x"], len(lines))

    def test_cells_and_rows_of_other_widths(self):
        self.assertEqual(read_book("cells 2\nto 0\n  keep 0 1\n  set 1 1 2 3 4").bodies(), [[("keep", [0, 1], []), ("set", 1, [1, 2, 3, 4])]])
        for line in ("keep 1 0", "keep 0 2", "keep 1 1", "set 2 0 0 0 0", "set 0 0 0 0", "carry 0 0 0", "call 0 0 0 0"):
            self.lines_fail(["cells 2", "to 0", "  " + line], 2)

    def test_the_depth_of_a_line(self):
        for depth in (0, 1, 3, 4, 5, 6, 8):
            self.lines_fail(["cells 1", "to 0", " " * depth + "end 0"], 2)
            self.lines_fail(["cells 1", "to 0", "  end 0", " " * depth + "end 0", "to 1"], 3)
        for depth in (0, 1, 3, 5, 6, 7, 8):
            self.lines_fail(["cells 1", "to 0", "  again", " " * depth + "end 0"], 3)
        for depth in (2, 4):
            self.assertEqual(len(read_book(f"cells 1\nto 0\n  again\n{' ' * depth}end 0")), 1)

    def test_or_and_ways(self):
        either = ["cells 1", "to 0", "  either", "    end 0"]
        for line in ("or", " or", "   or", "    or", "  or ", "  or 0", "  Or", "  end 0", "to 1", "  way 0", ""):
            self.lines_fail([*either, line], 4)
            self.lines_fail([*either[:3], line], 3)
        self.lines_fail([*either, "  or", "  or"], 5)
        self.lines_fail([*either, "  or", "    end 0", "    or"], 6)
        self.lines_fail(either, 4)
        self.lines_fail(either[:3], 3)
        call = ["cells 1", "to 0", "  call 0 0 0 0"]
        for line in ("way 0", " way 0", "    way 0", "  way 1", "  way", "  way 00", "  way 0 ", "    end 0", "  end 0", "to 1", "  or", ""):
            self.lines_fail([*call, line], 3)
        for line in ("way 1", "  way 0", "    way 1", "  way 2", "  end 0", "to 1", "", "      end 0"):
            self.lines_fail([*call, "  way 0", line], 4)
            self.lines_fail([*call, "  way 0", "    end 0", line], 5)
        self.lines_fail([*call, "  way 0", "  way 1", "  way 1"], 5)
        self.lines_fail(call, 3)
        self.lines_fail([*call, "  way 0"], 4)

    def test_the_ninth_of_a_list_and_the_thirteenth_of_a_procedure(self):
        eight = ["  end 0"] * 8
        self.assertEqual(len(read_book("\n".join(["cells 1", "to 0", *eight])).bodies()[0]), 8)
        self.lines_fail(["cells 1", "to 0", *eight, "  end 0"], 10)
        self.lines_fail(["cells 1", "to 0", *eight, "    end 0"], 10)
        inner = ["  again", *["    end 0"] * 8]
        self.lines_fail(["cells 1", "to 0", *inner, "    end 0"], 11)
        twelve = [*inner, "  end 0", "  end 0", "  end 0"]
        for following in ([], ["to 1", *twelve]):
            self.assertEqual(len(read_book("\n".join(["cells 1", "to 0", *twelve, *following])).bodies()[0]), 4)
        self.lines_fail(["cells 1", "to 0", *twelve, "  end 0"], 14)
        self.lines_fail(["cells 1", "to 0", *twelve, "  x"], 14)
        self.lines_fail(["cells 1", "to 0", *twelve, "to 1", *twelve, "  end 0"], 27)
        # Lines that are no statements do not count; the second block may still come, but no statement in it.
        either = ["  end 0"] * 7 + ["  either", *["    end 0"] * 4]
        self.assertEqual(len(read_book("\n".join(["cells 1", "to 0", *either, "  or", "to 1"]))), 2)
        self.lines_fail(["cells 1", "to 0", *either, "    end 0"], 14)
        self.lines_fail(["cells 1", "to 0", *either, "  or", "    end 0"], 15)

    def test_a_compound_at_level_3(self):
        ahead = ["cells 1", "to 0", "  again", "    again", "      again"]
        self.assertEqual(len(read_book("\n".join([*ahead, "        end 0", "        set 0 0 0 0", "        carry 0 0 0"]))), 1)
        for line in ("again", "keep", "keep 0", "either", "call 0 0 0 0"):
            self.lines_fail([*ahead, "        " + line], 5)
        self.lines_fail([*ahead, "          end 0"], 5)

    def test_calls_of_procedures_that_do_not_follow(self):
        call = ["  call 2 0 0 0", "  way 0", "  way 1"]
        self.lines_fail(["cells 1", "to 0", *call], 5)
        self.lines_fail(["cells 1", "to 0", *call, "to 1"], 6)
        self.lines_fail(["cells 1", "to 0", *call, "to 1", "  end 0"], 7)
        self.lines_fail(["cells 1", "to 0", *call, "to 1", "x"], 6)
        self.assertEqual(len(read_book("\n".join(["cells 1", "to 0", *call, "to 1", "to 2"]))), 3)
        self.lines_fail(["cells 1", "to 0", "  call 1 0 0 0", "  way 0", "  way 1"], 5)
        self.lines_fail(["cells 1", "to 0", "to 1", *call, "  call 0 0 0 0", "  way 0", "  way 1"], 9)
        self.assertEqual(len(read_book("\n".join(["cells 1", "to 0", "to 1", "to 2", *call]))), 3)

    def test_a_newline_at_the_end_and_the_empty_string(self):
        self.fails("", 0)
        self.fails("\n", 0)
        self.fails("cells 1\n", 1)
        self.fails("cells 1\nto 0\n", 2)
        self.fails(RICH + "\n", len(RICH.split("\n")))
        self.fails(RICH + "\n\n", len(RICH.split("\n")))
        self.fails("cells 1\n\nto 0", 1)
        self.fails("cells 1\r\nto 0", 0)
        self.fails("cells 1", 1)

    def test_a_wrong_line_at_every_place(self):
        lines = RICH.split("\n")
        for place in range(len(lines) + 1):
            for wrong in ("x", "", " ", "   end 0", "          end 0", "\tend 0", "cells 9", "  end 0 "):
                self.lines_fail([*lines[:place], wrong, *lines[place:]], place)
                if place < len(lines):
                    self.lines_fail([*lines[:place], wrong, *lines[place + 1:]], place)

    def test_texts_that_are_cut(self):
        """Behind each number of lines: either it is the text of a book, or it ends too early."""
        lines = RICH.split("\n")
        whole = {len(lines), len(lines) - 1}
        for many in range(1, len(lines) + 1):
            text = "\n".join(lines[:many])
            try:
                book = read_book(text)
            except NoText as error:
                self.assertEqual(error.line, many)
            else:
                self.assertEqual(book_text(book), text)
                whole.discard(many)
        self.assertEqual(whole, {len(lines) - 1})

    def test_each_start_of_a_text_can_be_completed(self):
        """Mutated lines: if a line is wrong, no change of the lines behind it helps; the ones ahead are a start."""
        source = random.Random(11)
        kinds = set()
        for book in random_books(250):
            lines = book_text(book).split("\n")
            place = source.randrange(len(lines))
            other = source.choice([source.choice(lines), lines[place][2:], "  " + lines[place], lines[place] + " 0"])
            changed = [*lines[:place], other, *lines[place + 1:]]
            try:
                found = read_book("\n".join(changed))
            except NoText as error:
                self.assertGreaterEqual(error.line, place)
                self.assertTrue(self.is_start(changed[:error.line]))
                if error.line < len(changed):
                    self.assertFalse(self.is_start(changed[:error.line + 1]))
                kinds.add(error.line > place)
            else:
                self.assertEqual(book_text(found), "\n".join(changed))
                kinds.add(None)
        self.assertEqual(len(kinds), 3)

    def is_start(self, lines):
        """Tell whether lines can be completed to a text, by trying endings one line at a time."""
        waiting, tried = [list(lines)], 0
        while waiting and tried < 400:
            present = waiting.pop()
            tried += 1
            try:
                read_book("\n".join(present))
                return True
            except NoText as error:
                if not present or error.line == len(present):
                    more = ["to 2", "to 1", "to 0", *["  " * k + word for k in range(1, 4) for word in ("way 1", "way 0", "or")]]
                    waiting += [[*present, line] for line in (more if present else ["cells 1"])]
        return False

    def test_what_is_read_is_a_book(self):
        for book in random_books(60):
            found = read_book(book_text(book))
            self.assertIsInstance(found, Book)
            self.assertEqual(found.cells(), book.cells())
            self.assertEqual(found.bodies(), book.bodies())
        with self.assertRaises(NoBook):
            Book(1, [[("end", 2)]])


if __name__ == "__main__":
    unittest.main()
