"""Points 19 and 20: canonical bases and the class Space."""

import copy
import math
import random
import unittest

import reference
from sharedboard.errors import NoVectors, NoWidth
from sharedboard.spaces import Space


def random_vectors(source, width, many, limit):
    """Return vectors, some of which depend on the others."""
    found = []
    for _ in range(many):
        if found and source.random() < 0.3:
            one, other = source.choice(found), source.choice(found)
            a, b = source.randint(-3, 3), source.randint(-3, 3)
            found.append([a * x + b * y for x, y in zip(one, other)])
        else:
            found.append([source.choice([0, 0, source.randint(-limit, limit)]) for _ in range(width)])
    return found


class BasisTest(unittest.TestCase):
    def check_words(self, basis, width):
        """Check what point 19 asks of a canonical basis, but for the space itself."""
        pivots = []
        for vector in basis:
            self.assertEqual(len(vector), width)
            pivot = next(k for k, number in enumerate(vector) if number != 0)
            self.assertGreater(vector[pivot], 0)
            self.assertEqual(math.gcd(*vector), 1)
            pivots.append(pivot)
        self.assertEqual(pivots, sorted(set(pivots)))
        for vector, own in zip(basis, pivots):
            self.assertEqual([vector[pivot] for pivot in pivots if pivot != own], [0] * (len(pivots) - 1))

    def test_written_out(self):
        self.assertEqual(Space(3, []).basis(), [])
        self.assertEqual(Space(3, [[0, 0, 0], [0, 0, 0]]).basis(), [])
        self.assertEqual(Space(1, [[-7]]).basis(), [[1]])
        self.assertEqual(Space(3, [[0, -4, 6]]).basis(), [[0, 2, -3]])
        self.assertEqual(Space(3, [[0, 2, 4], [3, 0, 9]]).basis(), [[1, 0, 3], [0, 1, 2]])
        self.assertEqual(Space(3, [[2, 1, 0], [0, 3, 1]]).basis(), [[6, 0, -1], [0, 3, 1]])
        self.assertEqual(Space(2, [[1, 2], [3, 4]]).basis(), [[1, 0], [0, 1]])
        self.assertEqual(Space(4, [[1, 1, 1, 1], [2, 2, 2, 5]]).basis(), [[1, 1, 1, 0], [0, 0, 0, 1]])

    def test_every_width(self):
        for width in range(1, 50):
            source = random.Random(width)
            vectors = random_vectors(source, width, source.randint(1, 8), 9)
            space = Space(width, vectors)
            self.assertEqual(space.width(), width)
            self.assertEqual(space.basis(), reference.canonical(vectors))
            self.assertEqual(len(space), reference.rank(vectors))
            self.check_words(space.basis(), width)
            whole = Space(width, [[int(i == j) + i * j for j in range(width)] for i in range(width)])
            self.assertEqual(len(whole), width)

    def test_random_vectors_of_several_sizes(self):
        for limit in (1, 3, 10 ** 6, 10 ** 40):
            for seed in range(60):
                source = random.Random(seed)
                width = source.randint(1, 9)
                vectors = random_vectors(source, width, source.randint(0, 10), limit)
                space = Space(width, vectors)
                with self.subTest(limit=limit, seed=seed):
                    self.assertEqual(space.basis(), reference.canonical(vectors))
                    self.check_words(space.basis(), width)

    def test_numbers_of_2000_digits(self):
        source = random.Random(5)
        big = 10 ** 1999
        for width, many in ((1, 1), (2, 2), (3, 2), (5, 3), (9, 2), (25, 3), (49, 2)):
            vectors = [[source.randint(-big, big) for _ in range(width)] for _ in range(many)]
            vectors.append([3 * x - y for x, y in zip(vectors[0], vectors[-1])])
            space = Space(width, vectors)
            self.assertEqual(space.basis(), reference.canonical(vectors))
            self.check_words(space.basis(), width)

    def test_small_bases_behind_large_numbers(self):
        source = random.Random(6)
        for width, many in ((4, 2), (9, 5), (16, 13), (25, 21), (25, 25), (49, 30)):
            small = random_vectors(source, width, many, 2)
            large = []
            for _ in range(many + 3):
                factors = [source.randint(-10 ** 1990, 10 ** 1990) for _ in small]
                large.append([sum(f * row[k] for f, row in zip(factors, small)) for k in range(width)])
            self.assertEqual(Space(width, large).basis(), reference.canonical(small))

    def test_the_numbers_that_a_guess_could_stumble_over(self):
        # Multiples of these primes are no zeros.
        for prime in (2 ** 61 - 1, 2 ** 521 - 1):
            self.assertEqual(Space(2, [[prime, 1], [1, 0]]).basis(), [[1, 0], [0, 1]])
            self.assertEqual(Space(2, [[prime, 0], [prime, prime]]).basis(), [[1, 0], [0, 1]])
            self.assertEqual(Space(2, [[1, 1], [1, 1 + prime]]).basis(), [[1, 0], [0, 1]])
            self.assertEqual(Space(3, [[1, 1, 0], [1, 1 + prime, 0]]).basis(), [[1, 0, 0], [0, 1, 0]])
            self.assertEqual(Space(2, [[1, prime], [2, 2 * prime]]).basis(), [[1, prime]])
            self.assertEqual(Space(3, [[1, prime, 0], [2, 2 * prime, prime]]).basis(), [[1, prime, 0], [0, 0, 1]])
            fraction = [[prime + 2, prime // 3, 1], [0, prime // 5, prime - 7]]
            self.assertEqual(Space(3, fraction).basis(), reference.canonical(fraction))

    def test_other_orders_doubled_negated_and_dependent_vectors(self):
        for seed in range(30):
            source = random.Random(seed)
            width = source.randint(2, 7)
            vectors = random_vectors(source, width, 4, 10 ** source.choice([1, 40]))
            space = Space(width, vectors)
            changed = [[factor * number for number in vector] for vector, factor in zip(vectors, (2, -1, 1, -10 ** 40))]
            changed.append([sum(column) for column in zip(*vectors)])
            changed.append([0] * width)
            source.shuffle(changed)
            other = Space(width, changed)
            self.assertEqual(space.basis(), other.basis())
            self.assertTrue(space == other)
            self.assertFalse(space != other)
            self.assertEqual(Space(width, space.basis()).basis(), space.basis())
            self.assertEqual(Space(width, space.basis()[::-1]).basis(), space.basis())


class MemberTest(unittest.TestCase):
    def test_members(self):
        space = Space(3, [[2, 1, 0], [0, 3, 1]])
        for vector in ([0, 0, 0], [2, 1, 0], [-2, -1, 0], [2, 4, 1], [6, 0, -1], [6 * 10 ** 1990, 0, -10 ** 1990]):
            self.assertTrue(vector in space)
        for vector in ([1, 0, 0], [0, 0, 1], [2, 1, 1], [6, 0, 1], [6 * 10 ** 1990, 1, -10 ** 1990]):
            self.assertFalse(vector in space)

    def test_members_are_what_does_not_raise_the_rank(self):
        for seed in range(60):
            source = random.Random(seed)
            width = source.randint(1, 6)
            vectors = random_vectors(source, width, 3, 4)
            space = Space(width, vectors)
            for _ in range(10):
                vector = [source.randint(-4, 4) for _ in range(width)]
                self.assertEqual(vector in space, reference.rank([*vectors, vector]) == reference.rank(vectors))
                inside = [0] * width
                for row in vectors:
                    factor = source.randint(-5, 5)
                    inside = [a + factor * b for a, b in zip(inside, row)]
                self.assertTrue(inside in space)

    def test_other_values_are_no_members(self):
        for space in (Space(2, []), Space(2, [[1, 0], [0, 1]])):
            for value in (None, 0, 1, True, "", "ab", (), (0, 0), (1, 0), [], [0], [0, 0, 0], [True, 0], [0, False],
                          [0, None], [0, "0"], [[0], [0]], {}, {0: 0, 1: 0}, [0, [0, 0]], space, [space, space]):
                self.assertIs(value in space, False)

    def test_the_zero_space_and_the_whole_space(self):
        for width in (1, 2, 7):
            zero = Space(width, [])
            whole = Space(width, [[int(i == j) for j in range(width)] for i in range(width)])
            self.assertTrue([0] * width in zero)
            self.assertFalse([0] * (width - 1) + [1] in zero)
            self.assertTrue([k - 10 ** 50 for k in range(width)] in whole)
            self.assertTrue(zero.within(whole))
            self.assertFalse(whole.within(zero))


class TogetherTest(unittest.TestCase):
    def test_sums(self):
        for seed in range(60):
            source = random.Random(seed)
            width = source.randint(1, 6)
            one = random_vectors(source, width, source.randint(0, 4), 5)
            other = random_vectors(source, width, source.randint(0, 4), 5)
            first, second = Space(width, one), Space(width, other)
            both = first + second
            self.assertEqual(both.basis(), reference.canonical(one + other))
            self.assertTrue(both == second + first)
            self.assertTrue(first.within(both) and second.within(both))
            self.assertEqual(first.within(second), len(both) == len(second))
            self.assertEqual(first == second, first.basis() == second.basis())
            self.assertEqual(both.width(), width)
            self.assertTrue(first + Space(width, []) == first)

    def test_equal_spaces_have_equal_widths(self):
        self.assertFalse(Space(2, []) == Space(3, []))
        self.assertTrue(Space(2, []) != Space(3, []))
        self.assertFalse(Space(2, [[1, 0]]) == Space(2, [[1, 0], [0, 1]]))
        self.assertTrue(Space(2, [[1, 1]]) == Space(2, [[-5, -5]]))

    def test_a_space_does_not_change(self):
        vectors = [[2, 1, 0], [0, 3, 1]]
        space = Space(3, vectors)
        kept = copy.deepcopy(space.basis())
        vectors[0][0] = 99
        vectors.append([0, 0, 1])
        self.assertEqual(space.basis(), kept)
        space.basis().append([0, 0, 1])
        space.basis()[0][0] = 99
        self.assertEqual(space.basis(), kept)
        self.assertEqual(len(space), 2)
        self.assertIsNot(space.basis()[0], space.basis()[0])
        self.assertEqual([6, 0, -1] in space, True)

    def test_a_canonical_basis_that_is_handed_in_is_copied(self):
        basis = [[1, 0, 5], [0, 1, 7]]
        space = Space(3, basis)
        basis[0][2] = 0
        basis.pop()
        self.assertEqual(space.basis(), [[1, 0, 5], [0, 1, 7]])

    def test_arguments_stay(self):
        vectors = [[4, 2, 0], [0, 0, 0], [4, 2, 0], [0, -3, 10 ** 500]]
        kept = copy.deepcopy(vectors)
        first = Space(3, vectors)
        second = Space(3, [[1, 1, 1]])
        before = (first.basis(), second.basis())
        self.assertEqual(vectors, kept)
        self.assertTrue((first + second).width() == 3 and first.within(first + second))
        self.assertEqual((first.basis(), second.basis()), before)


class ErrorTest(unittest.TestCase):
    def test_no_width(self):
        for width in (0, 50, -1, 10 ** 30, True, False, None, "3", [3], (3,), {}):
            for vectors in ([], None, [[1]]):
                with self.subTest(width=width), self.assertRaises(NoWidth):
                    Space(width, vectors)

    def check(self, vectors, index):
        with self.subTest(vectors=vectors), self.assertRaises(NoVectors) as caught:
            Space(2, vectors)
        self.assertEqual(caught.exception.index, index)

    def test_no_list(self):
        for vectors in (None, (), ([1, 2],), 0, "", {}, {0: [1, 2]}, True, Space(2, [])):
            self.check(vectors, -1)

    def test_the_first_vector_that_is_none(self):
        for wrong in (None, (1, 2), [1], [1, 2, 3], [], [1, True], [False, 0], [1, None], [1, "2"], [[1], 2], 0, "12", {}):
            self.check([wrong], 0)
            self.check([[1, 2], [3, 4], wrong, [1], None], 2)


if __name__ == "__main__":
    unittest.main()
