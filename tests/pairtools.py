"""Helpers of the tests of pairs of boards: faulty pairs and entries, layer by layer, by the words of points 39 and 42."""

import itertools

import reference
from sendertools import running_classes, some_deeds
from sharedboard.deeds import deed_class, deed_matrix, done


def bases(table):
    """Return the canonical bases of a table of spaces."""
    return {state: space.basis() for state, space in table.items()}


def spanning_histories(book, sender):
    """Return (history, state) for let histories whose board vectors span those of all let histories, state by state."""
    deeds = {cls: some_deeds(book, cls) for cls in running_classes(book)}
    waiting, found, vectors = [([], 0)], [], {}
    while waiting:
        history, state = waiting.pop(0)
        more = [*vectors.get(state, []), [1, *done(book, history)]]
        if reference.rank(more) < len(more):
            continue
        vectors[state] = more
        found.append((history, state))
        waiting += [([*history, deed], other) for cls, other in sender.ways(state) for deed in deeds[cls]]
    return found


def faulty_ends(fault, before):
    """Return what the one and the other do in a faulty history."""
    return before, before[:-1] if fault == "lost" else [*before[:-2], before[-1], before[-2]]


def spanning_faulty(book, sender, fault):
    """Return (before, state) for faulty histories whose pairs span those of all."""
    deeds = {cls: some_deeds(book, cls) for cls in running_classes(book)}
    found = []
    for history, state in spanning_histories(book, sender):
        for cls, other in sender.ways(state):
            if fault == "lost":
                found += [([*history, deed], other) for deed in deeds[cls]]
                continue
            for further, last in sender.ways(other):
                ends = itertools.product(deeds[cls], deeds[further])
                found += [([*history, one, two], last) for one, two in ends]
    return found


def pair_of(book, fault, before):
    """Return the pair vector behind a faulty history."""
    one, other = faulty_ends(fault, before)
    return [1, *done(book, one), *done(book, other)]


def spans(rows):
    """Return the dict from states to the canonical bases of tuples (vector, state)."""
    found = {}
    for vector, state in rows:
        found.setdefault(state, []).append(vector)
    return {state: reference.canonical(vectors) for state, vectors in found.items()}


def faulty_table(book, sender, fault):
    return spans([(pair_of(book, fault, before), state) for before, state in spanning_faulty(book, sender, fault)])


def entry_table(book, sender):
    """Return the bases of entries: boards of the joiner are the start and those with one 1."""
    cells = book.cells()
    boards = [[0] * cells, *[[int(k == j) for k in range(cells)] for j in range(cells)]]
    return spans([
        ([1, *done(book, history), *board], state) for history, state in spanning_histories(book, sender) for board in boards
    ])


def act(cells, matrix, pair):
    """Return what a board matrix makes of a pair vector by the words of point 39."""
    width = cells + 1

    def on(board):
        vector = [pair[0], *board]
        return [sum(matrix[width * i + j] * vector[j] for j in range(width)) for i in range(1, width)]

    return [matrix[0] * pair[0], *on(pair[1:width]), *on(pair[width:])]


def deed_matrices(book):
    """Return a dict from the classes with runs to the matrices of deeds that span their board spaces."""
    return {cls: [deed_matrix(book, deed) for deed in some_deeds(book, cls)] for cls in running_classes(book)}


def next_table(book, sender, table, matrices=None):
    """Return the bases behind one more deed."""
    matrices = matrices or deed_matrices(book)
    return spans([
        (act(book.cells(), matrix, pair), other)
        for state, pairs in table.items() for cls, other in sender.ways(state)
        for matrix in matrices[cls] for pair in pairs
    ])


def tables_behind(book, sender, table, many):
    """Return the list of the tables behind 0, 1, .., many further deeds."""
    found, matrices = [table], deed_matrices(book)
    for _ in range(many):
        found.append(next_table(book, sender, found[-1], matrices))
    return found


def all_level(cells, table):
    return all(pair[1:cells + 1] == pair[cells + 1:] for pairs in table.values() for pair in pairs)


def classes_of(book, history):
    return [deed_class(book, deed) for deed in history]
