"""Helpers of the tests of senders: random senders, and the boards behind let histories, layer by layer."""

import random

import reference
from sharedboard.bases import basis_runs, board_space
from sharedboard.books import Book
from sharedboard.matrices import applied
from sharedboard.senders import Sender


def running_classes(book):
    return [(p, way) for p in range(len(book)) for way in (0, 1) if basis_runs(book, (p, way))]


def random_sender(source, book):
    """Return a sender of one or two states, or None for a book without runs."""
    running = running_classes(book)
    if not running:
        return None
    states = source.choice([1, 2, 2])
    every = [(cls, state) for cls in running for state in range(states)]
    return Sender(book, [sorted(source.sample(every, source.randint(1, min(3, len(every))))) for _ in range(states)])


def random_case(seed, most_cells=3):
    """Return a source of numbers, a random book, and a sender of it (None if the book has no runs)."""
    source = random.Random(seed)
    cells = source.randint(1, most_cells)
    book = Book(cells, reference.random_bodies(seed, cells, 2))
    return source, book, random_sender(source, book)


def some_deeds(book, cls):
    """Return deeds of a class whose board matrices span its board space."""
    return [(cls[0], bits, n) for bits in basis_runs(book, cls) for n in (0, 1)]


def layers(book, sender, most):
    """Return, for each number of deeds, the dict from states to vectors that span the boards behind let histories."""
    cells = book.cells()
    spaces = {cls: board_space(book, cls).basis() for state in range(sender.states()) for cls, _ in sender.ways(state)}
    found = [{0: [[1] + [0] * cells]}]
    for _ in range(most):
        present = {}
        for state, vectors in found[-1].items():
            for cls, other in sender.ways(state):
                given = [applied(cells + 1, matrix, vector) for matrix in spaces[cls] for vector in vectors]
                present[other] = reference.canonical(present.get(other, []) + given)
        found.append(present)
    return found


def reach_by_layers(book, sender):
    """Return the dict from states to the canonical bases of all board vectors there."""
    found = {}
    for layer in layers(book, sender, 10):
        for state, vectors in layer.items():
            found[state] = reference.canonical(found.get(state, []) + vectors)
    return found


def let_histories(book, sender, most):
    """Yield (history, states) of let histories with at most so many deeds, made of a few deeds of each class."""
    deeds = {cls: some_deeds(book, cls)[:4] for state in range(sender.states()) for cls, _ in sender.ways(state)}
    waiting = [([], [0])]
    while waiting:
        history, classes_states = waiting.pop(0)
        yield history, classes_states
        if len(history) == most:
            continue
        for cls in sorted({cls for state in classes_states for cls, _ in sender.ways(state)}):
            states = sorted({other for state in classes_states for one, other in sender.ways(state) if one == cls})
            for deed in deeds[cls]:
                waiting.append(([*history, deed], states))


def value(form, vector):
    return sum(a * b for a, b in zip(form, vector))
