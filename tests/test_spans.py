"""Points 2 and 14: to clip, and to combine spans."""

import unittest

from lookdone.spans import clip, hull, less, minus, plus, same, times
from tests.samples import L

SMALL = [(low, high) for low in range(-3, 4) for high in range(low, 4)]


def inside(span):
    return range(span[0], span[1] + 1)


class SpansTest(unittest.TestCase):

    def check(self, found, wanted):
        self.assertEqual(found, wanted)
        self.assertIs(type(found), tuple)
        self.assertEqual([type(end) for end in found], [int, int])

    def test_clip(self):
        for number, wanted in (
            (0, 0), (5, 5), (-5, -5), (L, L), (-L, -L), (L - 1, L - 1), (1 - L, 1 - L), (L + 1, L), (-L - 1, -L),
            (10 ** 40, L), (-10 ** 40, -L),
        ):
            self.assertEqual(clip(number), wanted)

    def test_sums_differences_and_products_of_small_spans(self):
        for one in SMALL:
            for other in SMALL:
                for combine, of_values in (
                    (plus, lambda x, y: x + y), (minus, lambda x, y: x - y), (times, lambda x, y: x * y),
                ):
                    values = [of_values(x, y) for x in inside(one) for y in inside(other)]
                    self.check(combine(one, other), (min(values), max(values)))

    def test_comparisons_of_small_spans(self):
        for one in SMALL:
            for other in SMALL:
                for combine, of_values in ((less, lambda x, y: x < y), (same, lambda x, y: x == y)):
                    values = [int(of_values(x, y)) for x in inside(one) for y in inside(other)]
                    self.check(combine(one, other), (min(values), max(values)))

    def test_hulls_of_small_spans(self):
        for one in SMALL:
            for other in SMALL:
                self.check(hull(one, other), (min(one + other), max(one + other)))

    def test_hull(self):
        for one, other, wanted in (
            ((3, 3), (3, 3), (3, 3)),
            ((1, 9), (4, 5), (1, 9)),
            ((4, 5), (1, 9), (1, 9)),
            ((1, 4), (4, 9), (1, 9)),
            ((7, 9), (1, 2), (1, 9)),
            ((-L, 0), (0, L), (-L, L)),
        ):
            self.check(hull(one, other), wanted)

    def test_plus(self):
        self.check(plus((1, 2), (10, 20)), (11, 22))
        self.check(plus((L, L), (1, 5)), (L, L))
        self.check(plus((-L, L), (-1, 1)), (-L, L))
        self.check(plus((-L, -L), (-5, 7)), (-L, 7 - L))
        self.check(plus((-L, L), (3, 3)), (3 - L, L))

    def test_minus(self):
        self.check(minus((1, 2), (10, 20)), (-19, -8))
        self.check(minus((-L, L), (-1, 1)), (-L, L))
        self.check(minus((L, L), (-5, 5)), (L - 5, L))
        self.check(minus((-L, -L), (-5, 5)), (-L, 5 - L))

    def test_times(self):
        self.check(times((-2, 3), (4, 5)), (-10, 15))
        self.check(times((-2, 3), (-4, 5)), (-12, 15))
        self.check(times((-3, -2), (-5, -4)), (8, 15))
        self.check(times((10 ** 9, 10 ** 10), (10 ** 9, 10 ** 10)), (L, L))
        self.check(times((-L, L), (-L, L)), (-L, L))
        self.check(times((-L, -L), (2, 3)), (-L, -L))
        self.check(times((-L, L), (0, 0)), (0, 0))

    def test_less(self):
        for one, other, wanted in (
            ((1, 1), (2, 2), (1, 1)),
            ((2, 2), (2, 2), (0, 0)),
            ((3, 3), (2, 2), (0, 0)),
            ((0, 4), (4, 9), (0, 1)),
            ((0, 4), (5, 9), (1, 1)),
            ((4, 9), (0, 4), (0, 0)),
            ((4, 9), (0, 5), (0, 1)),
            ((0, 9), (3, 4), (0, 1)),
            ((-L, L), (-L, L), (0, 1)),
            ((-L, L), (-L, -L), (0, 0)),
        ):
            self.check(less(one, other), wanted)

    def test_same(self):
        for one, other, wanted in (
            ((0, 4), (4, 9), (0, 1)),
            ((4, 9), (0, 4), (0, 1)),
            ((0, 4), (5, 9), (0, 0)),
            ((5, 9), (0, 4), (0, 0)),
            ((2, 2), (2, 2), (1, 1)),
            ((2, 2), (3, 3), (0, 0)),
            ((2, 3), (2, 3), (0, 1)),
            ((2, 2), (2, 3), (0, 1)),
            ((2, 3), (3, 3), (0, 1)),
            ((0, 9), (3, 3), (0, 1)),
            ((L, L), (L, L), (1, 1)),
        ):
            self.check(same(one, other), wanted)

    def test_asked_again_the_answer_is_the_same(self):
        for combine in (hull, plus, minus, times, less, same):
            one, other = (-2, 3), (1, 5)
            self.assertEqual(combine(one, other), combine(one, other))
            self.assertEqual((one, other), ((-2, 3), (1, 5)))


if __name__ == "__main__":
    unittest.main()
