"""Promise 10: fractions."""

import random
import unittest
from fractions import Fraction

from samples import ODD_THINGS
from shorterline.errors import NoFraction
from shorterline.fractions import (
    added, divided, fraction_of, is_fraction, is_less, multiplied, on_one_bottom, taken_off,
)

FORTY = 10 ** 40 - 1

NUMBERS = (
    0, 1, -1, 2, -2, 3, 6, -6, 7, 12, -35, 100, 9999, 10000, -10001,
    2 ** 64, -3 ** 40, FORTY, -FORTY, FORTY - 1, 10 ** 39, -10 ** 39, 7 ** 47,
)


def pair_of(fraction):
    return (fraction.numerator, fraction.denominator)


FRACTIONS = sorted({
    pair_of(Fraction(top, bottom)) for top in NUMBERS for bottom in NUMBERS if bottom != 0
})


class IsFractionTest(unittest.TestCase):
    def test_fractions(self):
        for thing in FRACTIONS:
            self.assertIs(is_fraction(thing), True, thing)
        for thing in ((0, 1), (1, 1), (-1, 1), (-1, FORTY), (FORTY, FORTY - 1), (5, 1)):
            self.assertIs(is_fraction(thing), True, thing)

    def test_common_divisors(self):
        for thing in ((2, 2), (0, 2), (-2, 4), (6, 3), (FORTY, FORTY), (0, FORTY), (FORTY, 9)):
            self.assertIs(is_fraction(thing), False, thing)

    def test_bottoms(self):
        for thing in ((1, 0), (0, 0), (1, -1), (-1, -2), (0, -1), (1, -FORTY)):
            self.assertIs(is_fraction(thing), False, thing)

    def test_other_kinds(self):
        for thing in ODD_THINGS:
            self.assertIs(is_fraction(thing), False, thing)
        for thing in (
            [1, 2], (True, 2), (1, True), (False, 1), (True, True), (None, 1), (1, None),
            ("1", 2), (1, "2"), "12", (1, 2, 1), (1,), ((1, 2),), ((1,), 2), (1, [2]), {1: 2, 3: 4},
        ):
            self.assertIs(is_fraction(thing), False, thing)

    def test_what_is_handed_in_stays(self):
        thing = [1, 2]
        is_fraction(thing)
        self.assertEqual(thing, [1, 2])


class FractionOfTest(unittest.TestCase):
    def test_as_python_reckons(self):
        for top in NUMBERS:
            for bottom in NUMBERS:
                if bottom != 0:
                    told = fraction_of(top, bottom)
                    self.assertEqual(told, pair_of(Fraction(top, bottom)))
                    self.assertTrue(is_fraction(told))

    def test_by_hand(self):
        self.assertEqual(fraction_of(6, 4), (3, 2))
        self.assertEqual(fraction_of(6, -4), (-3, 2))
        self.assertEqual(fraction_of(-6, -4), (3, 2))
        self.assertEqual(fraction_of(0, 5), (0, 1))
        self.assertEqual(fraction_of(0, -5), (0, 1))
        self.assertEqual(fraction_of(FORTY, FORTY), (1, 1))

    def test_bottom_of_nothing(self):
        for top in NUMBERS:
            with self.assertRaises(NoFraction):
                fraction_of(top, 0)


class ReckoningTest(unittest.TestCase):
    def pairs(self):
        source = random.Random(10)
        for _ in range(3000):
            yield source.choice(FRACTIONS), source.choice(FRACTIONS)
        for one in ((0, 1), (1, 1), (-1, 1), (1, 2), (-FORTY, 1), (1, FORTY)):
            for other in ((0, 1), (1, 1), (-1, 1), (1, 2), (-FORTY, 1), (1, FORTY)):
                yield one, other

    def test_as_python_reckons(self):
        for one, other in self.pairs():
            first, second = Fraction(*one), Fraction(*other)
            self.assertEqual(added(one, other), pair_of(first + second))
            self.assertEqual(taken_off(one, other), pair_of(first - second))
            self.assertEqual(multiplied(one, other), pair_of(first * second))
            self.assertIs(is_less(one, other), first < second)
            if second:
                self.assertEqual(divided(one, other), pair_of(first / second))

    def test_what_is_told_is_a_fraction(self):
        for one, other in self.pairs():
            for told in (added(one, other), taken_off(one, other), multiplied(one, other)):
                self.assertIs(is_fraction(told), True)
            if other[0] != 0:
                self.assertIs(is_fraction(divided(one, other)), True)

    def test_by_hand(self):
        self.assertEqual(added((1, 2), (1, 3)), (5, 6))
        self.assertEqual(added((1, 2), (-1, 2)), (0, 1))
        self.assertEqual(taken_off((1, 2), (1, 3)), (1, 6))
        self.assertEqual(taken_off((1, 3), (1, 2)), (-1, 6))
        self.assertEqual(multiplied((2, 3), (3, 2)), (1, 1))
        self.assertEqual(divided((1, 2), (-1, 4)), (-2, 1))
        self.assertEqual(divided((0, 1), (-1, 4)), (0, 1))

    def test_quotient_by_nothing(self):
        for one in FRACTIONS:
            with self.assertRaises(NoFraction):
                divided(one, (0, 1))

    def test_less_by_hand(self):
        self.assertIs(is_less((1, 3), (1, 2)), True)
        self.assertIs(is_less((1, 2), (1, 3)), False)
        self.assertIs(is_less((1, 2), (1, 2)), False)
        self.assertIs(is_less((-1, 2), (-1, 3)), True)
        self.assertIs(is_less((-1, 2), (0, 1)), True)

    def test_sizes_beyond_forty_figures(self):
        large = (1, 1)
        for _ in range(40):
            large = multiplied(large, (FORTY, 10 ** 39))
        back = large
        for _ in range(40):
            back = divided(back, (FORTY, 10 ** 39))
        self.assertIs(is_fraction(large), True)
        self.assertEqual(back, (1, 1))


class OneBottomTest(unittest.TestCase):
    def test_by_hand(self):
        self.assertEqual(on_one_bottom([]), ([], 1))
        self.assertEqual(on_one_bottom([("a", (1, 2)), ("b", (1, 3))]), ([("a", 3), ("b", 2)], 6))
        self.assertEqual(on_one_bottom((("a", (5, 4)), ("b", (-1, 6)))), ([("a", 15), ("b", -2)], 12))
        self.assertEqual(on_one_bottom([("a", (2, 1)), ("a", (0, 1))]), ([("a", 2), ("a", 0)], 1))

    def test_tops_and_bottoms(self):
        tops, bottom = on_one_bottom([(fraction, fraction) for fraction in FRACTIONS])
        for fraction, top in tops:
            self.assertEqual(fraction_of(top, bottom), fraction)


if __name__ == "__main__":
    unittest.main()
