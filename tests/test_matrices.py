"""Point 9: composed and applied."""

import unittest

from sharedboard.matrices import applied, composed

WIDTHS = range(2, 8)


def numbers(many, seed, limit):
    """Return integers from -limit to limit that the seed decides."""
    found = []
    for _ in range(many):
        seed = (seed * 6364136223846793005 + 1442695040888963407) % 2 ** 64
        found.append((seed >> 11) * (seed ** 3) % (2 * limit + 1) - limit)
    return found


def identity(width):
    return [1 if row == column else 0 for row in range(width) for column in range(width)]


def rows_of(width, matrix):
    return [matrix[width * row:width * row + width] for row in range(width)]


def by_the_words(width, one, other):
    """Return the matrix of "one, then other", added up number by number."""
    first, second = rows_of(width, one), rows_of(width, other)
    found = []
    for i in range(width):
        for j in range(width):
            total = 0
            for k in range(width):
                total += second[i][k] * first[k][j]
            found.append(total)
    return found


class ComposedTest(unittest.TestCase):
    def test_written_out_numbers(self):
        self.assertEqual(composed(2, [1, 2, 3, 4], [5, 6, 7, 8]), [23, 34, 31, 46])
        self.assertEqual(composed(2, [5, 6, 7, 8], [1, 2, 3, 4]), [19, 22, 43, 50])

    def test_order_is_one_then_other(self):
        add_one = [1, 0, 1, 1]
        double = [1, 0, 0, 2]
        self.assertEqual(composed(2, add_one, double), [1, 0, 2, 2])
        self.assertEqual(composed(2, double, add_one), [1, 0, 1, 2])

    def test_every_width_and_size_of_numbers(self):
        for width in WIDTHS:
            for limit in (1, 9, 10 ** 50):
                for seed in range(5):
                    with self.subTest(width=width, limit=limit, seed=seed):
                        one = numbers(width * width, seed, limit)
                        other = numbers(width * width, seed + 100, limit)
                        self.assertEqual(composed(width, one, other), by_the_words(width, one, other))

    def test_large_numbers_are_exact(self):
        big = 10 ** 49 + 7
        self.assertEqual(
            composed(2, [big, 1, 0, big], [big, 0, 1, -big]),
            [big * big, big, big, 1 - big * big],
        )

    def test_identity_on_either_side(self):
        for width in WIDTHS:
            with self.subTest(width=width):
                matrix = numbers(width * width, width, 10 ** 50)
                self.assertEqual(composed(width, identity(width), matrix), matrix)
                self.assertEqual(composed(width, matrix, identity(width)), matrix)

    def test_three_matrices_associate(self):
        for width in WIDTHS:
            a, b, c = [numbers(width * width, seed, 10 ** 50) for seed in (1, 2, 3)]
            left = composed(width, composed(width, a, b), c)
            self.assertEqual(left, composed(width, a, composed(width, b, c)))

    def test_arguments_stay_and_the_result_is_new(self):
        for width in WIDTHS:
            one = numbers(width * width, 5, 9)
            other = identity(width)
            kept = (list(one), list(other))
            result = composed(width, one, other)
            self.assertIsNot(result, one)
            result.append(0)
            result[0] = "changed"
            self.assertEqual((one, other), kept)
            self.assertEqual(composed(width, one, other), one)

    def test_one_list_as_both_arguments(self):
        matrix = [1, 0, 1, 1]
        self.assertEqual(composed(2, matrix, matrix), [1, 0, 2, 1])
        self.assertEqual(matrix, [1, 0, 1, 1])


class AppliedTest(unittest.TestCase):
    def test_written_out_numbers(self):
        self.assertEqual(applied(2, [1, 2, 3, 4], [5, 6]), [17, 39])
        self.assertEqual(applied(3, [1, 0, 0, 7, 2, 0, 0, 3, -1], [1, 4, 5]), [1, 15, 7])

    def test_rows_are_not_columns(self):
        self.assertEqual(applied(2, [0, 1, 0, 0], [2, 3]), [3, 0])

    def test_identity_gives_the_vector(self):
        for width in WIDTHS:
            vector = numbers(width, width, 10 ** 50)
            self.assertEqual(applied(width, identity(width), vector), vector)

    def test_each_row_by_itself(self):
        for width in WIDTHS:
            for limit in (9, 10 ** 50):
                with self.subTest(width=width, limit=limit):
                    matrix = numbers(width * width, 11, limit)
                    vector = numbers(width, 12, limit)
                    found = applied(width, matrix, vector)
                    self.assertEqual(len(found), width)
                    for number, row in zip(found, rows_of(width, matrix)):
                        self.assertEqual(number, sum(a * b for a, b in zip(row, vector)))

    def test_a_composition_acts_like_one_after_the_other(self):
        for width in WIDTHS:
            for seed in range(10):
                with self.subTest(width=width, seed=seed):
                    one = numbers(width * width, seed, 10 ** 50)
                    other = numbers(width * width, seed + 50, 10 ** 50)
                    vector = numbers(width, seed + 90, 10 ** 50)
                    at_once = applied(width, composed(width, one, other), vector)
                    behind_one = applied(width, one, vector)
                    self.assertEqual(at_once, applied(width, other, behind_one))
                    self.assertNotEqual(at_once, applied(width, one, applied(width, other, vector)))

    def test_arguments_stay_and_the_result_is_new(self):
        for width in WIDTHS:
            matrix, vector = identity(width), numbers(width, 3, 9)
            kept = (list(matrix), list(vector))
            result = applied(width, matrix, vector)
            self.assertIsNot(result, vector)
            result.append(0)
            result[0] = "changed"
            self.assertEqual((matrix, vector), kept)


if __name__ == "__main__":
    unittest.main()
