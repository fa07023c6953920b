"""Point 21: product, image and vanishing."""

import random
import unittest

import reference
from sharedboard.matrices import applied, composed
from sharedboard.spaces import Space, image, product, vanishing


def matrices(source, width, many, limit=3):
    return [[source.choice([0, source.randint(-limit, limit)]) for _ in range(width * width)] for _ in range(many)]


def unit(width, item):
    return [int(k == item) for k in range(width)]


class ProductTest(unittest.TestCase):
    def test_the_order(self):
        add_one, double = [1, 0, 1, 1], [1, 0, 0, 2]
        one, other = Space(4, [add_one]), Space(4, [double])
        self.assertEqual(product(2, one, other).basis(), [[1, 0, 2, 2]])
        self.assertEqual(product(2, other, one).basis(), [[1, 0, 1, 2]])

    def test_several_matrices_that_do_not_commute(self):
        for seed in range(40):
            source = random.Random(seed)
            width = source.randint(2, 5)
            one = matrices(source, width, source.randint(1, 3), source.choice([3, 10 ** 40]))
            other = matrices(source, width, source.randint(1, 3))
            found = product(width, Space(width * width, one), Space(width * width, other))
            every = [reference.times(width, a, b) for a in one for b in other]
            self.assertEqual(found.width(), width * width)
            self.assertEqual(found.basis(), reference.canonical(every))

    def test_zero_spaces_on_either_side(self):
        for width in (2, 3, 5, 7):
            zero = Space(width * width, [])
            some = Space(width * width, matrices(random.Random(width), width, 3))
            for one, other in ((zero, some), (some, zero), (zero, zero)):
                self.assertEqual(product(width, one, other).basis(), [])
                self.assertEqual(product(width, one, other).width(), width * width)

    def test_identities(self):
        for width in range(2, 8):
            still = Space(width * width, [[5 * number for number in reference.identity(width)]])
            some = Space(width * width, matrices(random.Random(width), width, 3))
            self.assertTrue(product(width, still, some) == some)
            self.assertTrue(product(width, some, still) == some)

    def test_whole_spaces(self):
        for width in range(2, 6):
            whole = Space(width * width, [unit(width * width, item) for item in range(width * width)])
            self.assertTrue(product(width, whole, whole) == whole)

    def test_products_of_products(self):
        source = random.Random(3)
        one, other, third = [Space(9, matrices(source, 3, 2)) for _ in range(3)]
        self.assertTrue(product(3, product(3, one, other), third) == product(3, one, product(3, other, third)))
        self.assertTrue(product(3, one + other, third) == product(3, one, third) + product(3, other, third))


class ImageTest(unittest.TestCase):
    def test_written_out(self):
        double = Space(4, [[1, 0, 0, 2]])
        self.assertEqual(image(2, double, Space(2, [[1, 5]])).basis(), [[1, 10]])
        self.assertEqual(image(2, Space(4, [[0, 1, 0, 0]]), Space(2, [[3, 4]])).basis(), [[1, 0]])
        self.assertEqual(image(2, Space(4, [[0, 1, 0, 0]]), Space(2, [[3, 0]])).basis(), [])

    def test_random_spaces(self):
        for seed in range(40):
            source = random.Random(seed)
            width = source.randint(2, 7)
            some = matrices(source, width, source.randint(1, 3), source.choice([3, 10 ** 40]))
            vectors = [[source.randint(-3, 3) for _ in range(width)] for _ in range(source.randint(1, 3))]
            found = image(width, Space(width * width, some), Space(width, vectors))
            every = [applied(width, matrix, vector) for matrix in some for vector in vectors]
            self.assertEqual(found.width(), width)
            self.assertEqual(found.basis(), reference.canonical(every))

    def test_zero_spaces_on_either_side(self):
        for width in (2, 4, 7):
            some = Space(width * width, [reference.identity(width)])
            vectors = Space(width, [unit(width, 1)])
            self.assertEqual(image(width, Space(width * width, []), vectors).basis(), [])
            self.assertEqual(image(width, some, Space(width, [])).basis(), [])
            self.assertTrue(image(width, some, vectors) == vectors)

    def test_an_image_of_an_image(self):
        source = random.Random(8)
        one, other = [Space(9, matrices(source, 3, 2)) for _ in range(2)]
        vectors = Space(3, [[1, 2, 3]])
        self.assertTrue(image(3, product(3, one, other), vectors) == image(3, other, image(3, one, vectors)))
        self.assertEqual(composed(3, one.basis()[0], other.basis()[0]) in product(3, one, other), True)


class VanishingTest(unittest.TestCase):
    def test_written_out(self):
        self.assertEqual(vanishing(Space(2, [[1, 2]])).basis(), [[2, -1]])
        self.assertEqual(vanishing(Space(3, [[1, 0, 2], [0, 1, 3]])).basis(), [[2, 3, -1]])
        self.assertEqual(vanishing(Space(3, [[2, 0, 3]])).basis(), [[3, 0, -2], [0, 1, 0]])
        self.assertEqual(vanishing(Space(3, [[0, 1, 0]])).basis(), [[1, 0, 0], [0, 0, 1]])

    def test_the_zero_space_and_the_whole_space(self):
        for width in (1, 2, 7, 25, 49):
            whole = Space(width, [unit(width, item) for item in range(width)])
            zero = Space(width, [])
            self.assertTrue(vanishing(zero) == whole)
            self.assertTrue(vanishing(whole) == zero)
            self.assertEqual(vanishing(zero).width(), width)

    def test_vanishing_of_vanishing(self):
        for seed in range(80):
            source = random.Random(seed)
            width = source.choice([1, 2, 3, 4, 5, 9, 25])
            limit = source.choice([1, 5, 10 ** 40])
            vectors = [
                [source.choice([0, source.randint(-limit, limit)]) for _ in range(width)]
                for _ in range(source.randint(0, min(width, 6)))
            ]
            space = Space(width, vectors)
            forms = vanishing(space)
            self.assertEqual(len(forms), width - len(space))
            for form in forms.basis():
                for vector in vectors:
                    self.assertEqual(sum(a * b for a, b in zip(form, vector)), 0)
            self.assertEqual(forms.basis(), reference.canonical(forms.basis()))
            self.assertTrue(vanishing(forms) == space)

    def test_numbers_of_2000_digits(self):
        big = 10 ** 1999 + 17
        space = Space(4, [[big, 3, 0, 1], [0, big - 1, 5, big]])
        forms = vanishing(space)
        self.assertEqual(len(forms), 2)
        self.assertTrue(vanishing(forms) == space)
        self.assertEqual(forms.basis(), reference.canonical(forms.basis()))


class NewTest(unittest.TestCase):
    def test_arguments_stay(self):
        source = random.Random(4)
        one, other, vectors = Space(9, matrices(source, 3, 2)), Space(9, matrices(source, 3, 2)), Space(3, [[1, 2, 3]])
        before = [space.basis() for space in (one, other, vectors)]
        for found in (product(3, one, other), image(3, one, vectors), vanishing(one)):
            found.basis().append("changed")
        self.assertEqual([space.basis() for space in (one, other, vectors)], before)


if __name__ == "__main__":
    unittest.main()
