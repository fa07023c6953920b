"""Texts: books written as lines, and read again."""

from sharedboard.errors import NoText
from sharedboard.reader import DIVIDERS, Reader, indent_of
from sharedboard.statements import blocks_of


def head_of(statement):
    """Return the first line of a statement, without the spaces ahead of it."""
    word = statement[0]
    items = [word]
    if word in ("set", "call"):
        items = [word, statement[1], *statement[2]]
    elif word in ("carry", "keep"):
        items = [word, *statement[1]]
    elif word == "end":
        items = [word, statement[1]]
    return " ".join([str(item) for item in items])


def lines_of(block, level):
    """Return the lines of a list of statements at a level."""
    indent = indent_of(level)
    found = []
    for statement in block:
        found.append(indent + head_of(statement))
        for divider, inner in zip(DIVIDERS.get(statement[0], ()), blocks_of(statement)):
            if divider:
                found.append(indent + divider)
            found.extend(lines_of(inner, level + 1))
    return found


def book_text(book):
    """Return the text of a book."""
    lines = [f"cells {book.cells()}"]
    for procedure, body in enumerate(book.bodies()):
        lines = [*lines, f"to {procedure}", *lines_of(body, 0)]
    return "\n".join(lines)


def read_book(text):
    """Return the book whose text is a text."""
    if not isinstance(text, str):
        raise NoText(-1)
    return Reader(text.split("\n")).book()
