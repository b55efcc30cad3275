import unittest
from fractions import Fraction
from math import gcd

from squarepapers.errors import BadText, NoParts
from squarepapers.fractions import (
    compared, fraction_in, fraction_text, is_fraction, less, lowest, over, plus, root_of, sign_of, times,
)

BIG = 10 ** 60
SOME = tuple(
    (top, bottom)
    for top in (0, 1, -1, 2, -3, 7, -12, BIG - 1, -BIG)
    for bottom in (1, 2, 3, 12, BIG, BIG - 1)
    if gcd(top, bottom) == 1
)
NO_TEXTS = (
    "", " ", "2/4", "1/1", "-1/1", "0/5", "0/1", "-0", "-0/3", "00", "01", "-01", "1/02", "01/2", "+1", "1/-2", "1/+2",
    "1 /2", "1/ 2", "1/", "/2", "/", "-", "--1", "-/2", "1/0", "0/0", "1//2", "1/2/3", "a", "1a", "1/a", " 1", "1 ",
    "\n1", "1\n", "1/2\n", " 1/2", "1.5", "1_0", "1,2", "6/3", "-6/4", "0x1", "1e3", "\u0661", "1/\u0662", "\u00b2",
)


def pair(fraction):
    return (fraction.numerator, fraction.denominator)


class IsFraction(unittest.TestCase):
    def test_fractions(self):
        for thing in SOME + ((0, 1), (1, 1), (-1, 1), (1, 2), (-7, 12), (10 ** 200, 3), (2 ** 300, 3 ** 200)):
            with self.subTest(thing):
                self.assertIs(is_fraction(thing), True)

    def test_not_in_lowest_terms(self):
        for thing in ((2, 4), (-2, 4), (3, 3), (0, 2), (0, 5), (6, 2), (-9, 3), (10 ** 200, 10 ** 100), (BIG, BIG)):
            with self.subTest(thing):
                self.assertIs(is_fraction(thing), False)

    def test_bottom_of_nought_or_below(self):
        for thing in ((0, 0), (1, 0), (-1, 0), (1, -1), (0, -1), (-1, -2), (1, -BIG)):
            with self.subTest(thing):
                self.assertIs(is_fraction(thing), False)

    def test_things_of_any_kind(self):
        deep = ()
        for _ in range(30):
            deep = (deep,)
        things = (
            True, False, None, 0, 1, "", "1/2", "12", [], (), (1,), (1, 2, 3), ((1, 2),), [1, 2], [[1, 2]],
            (True, 1), (1, True), (False, 1), (True, 2), (0, True), (None, 1), (1, None), ("1", 2), (1, "2"), ("1", "2"),
            ((1, 2), 1), (1, (1, 2)), ([1], 2), (1, [2]), deep, (deep, 1), (1, deep), (1, 2, 0), tuple(range(4000)),
        )
        for thing in things:
            with self.subTest(repr(thing)[:40]):
                self.assertIs(is_fraction(thing), False)

    def test_what_is_asked_about_stays(self):
        thing = [1, [2, 3]]
        is_fraction(thing)
        self.assertEqual(thing, [1, [2, 3]])

    def test_by_name(self):
        self.assertIs(is_fraction(thing=(1, 2)), True)


class Reckoning(unittest.TestCase):
    def test_lowest(self):
        for top in (0, 1, -1, 6, -6, 35, BIG, -3 * BIG):
            for bottom in (1, -1, 4, -4, 9, 35, -BIG, 10 ** 400):
                with self.subTest((top, bottom)):
                    self.assertEqual(lowest(top, bottom), pair(Fraction(top, bottom)))

    def test_lowest_by_hand(self):
        self.assertEqual(lowest(6, 4), (3, 2))
        self.assertEqual(lowest(6, -4), (-3, 2))
        self.assertEqual(lowest(-6, -4), (3, 2))
        self.assertEqual(lowest(0, -7), (0, 1))
        self.assertEqual(lowest(top=8, bottom=4), (2, 1))

    def test_of_two(self):
        for one in SOME:
            for other in SOME:
                a, b = Fraction(*one), Fraction(*other)
                self.assertEqual(plus(one, other), pair(a + b))
                self.assertEqual(less(one, other), pair(a - b))
                self.assertEqual(times(one, other), pair(a * b))
                self.assertEqual(compared(one, other), (a > b) - (a < b))
                if other != (0, 1):
                    self.assertEqual(over(one, other), pair(a / b))

    def test_of_two_by_hand(self):
        self.assertEqual(plus((1, 2), (1, 3)), (5, 6))
        self.assertEqual(plus((1, 6), (1, 3)), (1, 2))
        self.assertEqual(less((1, 2), (1, 2)), (0, 1))
        self.assertEqual(less(one=(1, 2), other=(1, 3)), (1, 6))
        self.assertEqual(times((-2, 3), (3, 4)), (-1, 2))
        self.assertEqual(times((0, 1), (3, 4)), (0, 1))
        self.assertEqual(over((1, 2), (-3, 4)), (-2, 3))
        self.assertEqual(over((0, 1), (-3, 4)), (0, 1))

    def test_all_told_are_fractions(self):
        for one in SOME:
            for other in SOME[:12]:
                for told in (plus(one, other), less(one, other), times(one, other)):
                    self.assertIs(is_fraction(told), True)

    def test_lists_for_tuples(self):
        self.assertEqual(plus([1, 2], [1, 3]), (5, 6))
        self.assertEqual(less([1, 2], (1, 3)), (1, 6))
        self.assertEqual(times((2, 3), [3, 4]), (1, 2))
        self.assertEqual(over([1, 2], [1, 4]), (2, 1))
        self.assertEqual(sign_of([-1, 2]), -1)
        self.assertEqual(compared([1, 2], [1, 3]), 1)
        self.assertEqual(root_of([4, 9]), (2, 3))
        self.assertEqual(fraction_text([-7, 12]), "-7/12")

    def test_handed_in_lists_stay(self):
        one, other = [2, 3], [-1, 2]
        for deed in (plus, less, times, over, compared):
            deed(one, other)
        root_of(one), sign_of(one), fraction_text(one)
        self.assertEqual((one, other), ([2, 3], [-1, 2]))

    def test_by_nought(self):
        for top in (0, 1, -5, BIG):
            with self.assertRaises(NoParts):
                lowest(top, 0)
        for one in SOME:
            with self.assertRaises(ZeroDivisionError):
                over(one, (0, 1))
        with self.assertRaises(NoParts):
            over([1, 2], [0, 1])

    def test_signs(self):
        for fraction, sign in (((0, 1), 0), ((1, 7), 1), ((-1, 7), -1), ((BIG, 1), 1), ((-BIG, 7), -1)):
            self.assertEqual(sign_of(fraction), sign)

    def test_compared(self):
        self.assertEqual(compared((1, 2), (1, 3)), 1)
        self.assertEqual(compared((1, 3), (1, 2)), -1)
        self.assertEqual(compared((-1, 3), (-1, 2)), 1)
        self.assertEqual(compared((2, 3), (2, 3)), 0)
        self.assertEqual(compared((BIG, BIG + 1), (BIG - 1, BIG)), 1)


class Roots(unittest.TestCase):
    def test_of_squares(self):
        for root in ((0, 1), (1, 1), (1, 2), (2, 3), (7, 12), (BIG - 1, BIG), (3 ** 200, 2 ** 300)):
            self.assertEqual(root_of(times(root, root)), root)

    def test_of_what_has_none(self):
        for fraction in ((2, 1), (1, 2), (4, 3), (3, 4), (8, 9), (9, 8), (2, 3)):
            self.assertIsNone(root_of(fraction))

    def test_beside_squares(self):
        for number in (2, 7, BIG, 10 ** 200):
            square = number * number
            self.assertIsNone(root_of((square + 1, 1)))
            self.assertIsNone(root_of((square - 1, 1)))
            self.assertIsNone(root_of((1, square + 1)))
            self.assertIsNone(root_of((1, square - 1)))

    def test_below_nought(self):
        for fraction in ((-1, 1), (-4, 9), (-1, 4), (-BIG, 1)):
            self.assertIsNone(root_of(fraction))


class Texts(unittest.TestCase):
    def test_each_way(self):
        for text, fraction in (
            ("0", (0, 1)), ("1", (1, 1)), ("-3", (-3, 1)), ("1/2", (1, 2)), ("-7/12", (-7, 12)), ("10/3", (10, 3)),
            ("120", (120, 1)), ("1" + "0" * 60, (BIG, 1)), ("-1/1" + "0" * 60, (-1, BIG)),
        ):
            with self.subTest(text):
                self.assertEqual(fraction_text(fraction), text)
                self.assertEqual(fraction_in(text), fraction)

    def test_there_and_back(self):
        for fraction in SOME:
            self.assertEqual(fraction_in(fraction_text(fraction)), fraction)

    def test_whatever_its_size(self):
        great = (-3 ** 20000, 2 ** 30000)
        self.assertTrue(is_fraction(great))
        text = fraction_text(great)
        self.assertGreater(len(text), 18000)
        self.assertEqual(fraction_in(text), great)

    def test_texts_of_no_fraction(self):
        for text in NO_TEXTS:
            with self.subTest(text):
                with self.assertRaises(BadText) as caught:
                    fraction_in(text)
                self.assertEqual(caught.exception.spot, 0)
                self.assertIsInstance(caught.exception, ValueError)

    def test_by_name(self):
        self.assertEqual(fraction_in(text="1/2"), (1, 2))
        self.assertEqual(fraction_text(fraction=(1, 2)), "1/2")


if __name__ == "__main__":
    unittest.main()
