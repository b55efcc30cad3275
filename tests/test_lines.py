import unittest

from drawing import Drawer, by_powers_of_x, form_from, has_list, nested_list
from squarepapers.errors import BadUnknowns, NoParts
from squarepapers.forms import (
    degree_of, form_text, is_form, names_of, number_form, number_of, plus_of, power_of, times_of, unknown, weighed,
)
from squarepapers.fractions import lowest
from squarepapers.lines import common_of, divided, free_parts, lead_of, slope_of

ONE = number_form((1, 1))
X = unknown("x")
TWO_UNKNOWNS = form_from("1*x + 1*y")
NO_DIVISORS = ("1*x + -1", "1*x", "2*x + 3", "1*x^2 + -2", "1*x^2 + 1", "1*x^3 + -1*x + 1", "1/3*x^2 + 1*x + 1", "1*x + 1/7")


def roots_form(*roots):
    form = ONE
    for root in roots:
        form = times_of(form, plus_of(X, number_form(lowest(-root, 1))))
    return form


class LineCase(unittest.TestCase):
    def assert_bad_unknowns(self, names, function, *args):
        with self.assertRaises(BadUnknowns) as caught:
            function(*args)
        self.assertEqual(caught.exception.names, names)
        self.assertIsInstance(caught.exception.names, tuple)
        self.assertIsInstance(caught.exception, ValueError)

    def assert_no_parts(self, function, *args):
        with self.assertRaises(NoParts) as caught:
            function(*args)
        self.assertIsInstance(caught.exception, ZeroDivisionError)

    def drawn(self, drawer, degree):
        return drawer.form(("x",), degree, degree + 2)


class LeadOf(LineCase):
    def test_by_hand(self):
        for text, lead in (
            ("5/7", (5, 7)), ("-2", (-2, 1)), ("1*x", (1, 1)), ("-3/2*x + 9", (-3, 2)), ("1 + 1*x + -1/9*x^2", (-1, 9)),
            ("7*x^24 + 1*x^3 + 4*x^2", (7, 1)), ("1*x^10 + 5*x^9", (1, 1)),
        ):
            self.assertEqual(lead_of(form_from(text)), lead)
        self.assertEqual(lead_of(()), (0, 1))

    def test_refused_and_lists(self):
        self.assert_bad_unknowns(("x", "y"), lead_of, TWO_UNKNOWNS)
        self.assert_bad_unknowns(("a", "x", "z"), lead_of, form_from("1*z + 1*x*a"))
        told = lead_of(nested_list(form_from("1 + 1/2*x")))
        self.assertEqual(told, (1, 2))
        self.assertIsInstance(told, tuple)
        self.assertIsInstance(lead_of([[[], [1, 2]]]), tuple)
        self.assertEqual(lead_of(form=X), (1, 1))
        self.assertEqual(lead_of([]), (0, 1))


class Divided(LineCase):
    def check(self, one, other):
        quotient, rest = divided(one, other)
        self.assertTrue(is_form(quotient) and is_form(rest))
        self.assertEqual(plus_of(times_of(quotient, other), rest), one)
        self.assertTrue(rest == () or degree_of(rest) < degree_of(other))
        return form_text(quotient), form_text(rest)

    def check_texts(self, one, other):
        return self.check(form_from(one) if one else (), form_from(other))

    def test_by_hand(self):
        self.assertEqual(self.check_texts("1*x^2 + -1", "1*x + -1"), ("1 + 1*x", "0"))
        self.assertEqual(self.check_texts("1*x^2 + 1", "1*x + -1"), ("1 + 1*x", "2"))
        self.assertEqual(self.check_texts("1*x^3", "2*x^2 + 1"), ("1/2*x", "-1/2*x"))
        self.assertEqual(self.check_texts("1*x^4 + 1*x", "-1/3*x^2"), ("-3*x^2", "1*x"))
        self.assertEqual(self.check_texts("3*x^2 + 1", "3*x^2 + 1"), ("1", "0"))
        self.assertEqual(self.check_texts("3*x^2 + 1", "-2*x^2"), ("-3/2", "1"))

    def test_by_numbers_of_nought_and_of_lesser_degree(self):
        self.assertEqual(self.check_texts("3*x^2 + 1", "2"), ("1/2 + 3/2*x^2", "0"))
        self.assertEqual(self.check_texts("3*x", "-1/2"), ("-6*x", "0"))
        self.assertEqual(self.check_texts("7", "3"), ("7/3", "0"))
        self.assertEqual(self.check_texts("", "3"), ("0", "0"))
        self.assertEqual(self.check_texts("", "1*x"), ("0", "0"))
        self.assertEqual(self.check_texts("2*x + 1", "1*x^2"), ("0", "1 + 2*x"))
        self.assertEqual(self.check_texts("5", "1*x"), ("0", "5"))

    def test_drawn(self):
        drawer = Drawer("divided")
        for _ in range(300):
            one, other = self.drawn(drawer, drawer.number(0, 8)), self.drawn(drawer, drawer.number(0, 6))
            if other:
                self.check(one, other)
                self.assertEqual(divided(times_of(one, other), other), (one, ()))

    def test_great_numbers(self):
        one = by_powers_of_x(*[(10 ** 60 - k * k, 10 ** 60 - 1 - k) for k in range(11)])
        other = by_powers_of_x(*[(k - 10 ** 60, 10 ** 59 + k) for k in range(6)])
        self.check(one, other)

    def test_refused(self):
        self.assert_no_parts(divided, X, ())
        self.assert_no_parts(divided, (), ())
        self.assert_no_parts(divided, ONE, ())
        self.assert_bad_unknowns(("x", "y"), divided, TWO_UNKNOWNS, ())
        self.assert_bad_unknowns(("x", "y"), divided, TWO_UNKNOWNS, X)
        self.assert_bad_unknowns(("x", "y"), divided, X, TWO_UNKNOWNS)
        self.assert_bad_unknowns(("x", "y"), divided, unknown("y"), X)
        self.assert_bad_unknowns(("a", "x", "y"), divided, TWO_UNKNOWNS, unknown("a"))

    def test_lists(self):
        one, other = form_from("1*x^2 + 1/2"), form_from("2*x + 1")
        handed = nested_list(one), nested_list(other)
        told = divided(*handed)
        self.assertEqual(told, divided(one, other))
        self.assertFalse(has_list(told))
        self.assertEqual(handed, (nested_list(one), nested_list(other)))
        self.assertFalse(has_list(divided(nested_list(other), handed[0])))
        self.assertEqual(divided(one=one, other=other), told)
        self.assert_no_parts(divided, handed[0], [])


class SlopeOf(LineCase):
    def test_by_hand(self):
        for text, slope in (
            ("5/7", "0"), ("1*x", "1"), ("-3/2*x + 9", "-3/2"), ("1*x^2", "2*x"), ("1 + 1*x + -1/9*x^3", "1 + -1/3*x^2"),
            ("1/24*x^24 + 1/2*x^2", "1*x + 1*x^23"), ("4*x^10 + 1", "40*x^9"),
        ):
            self.assertEqual(form_text(slope_of(form_from(text))), slope)
        self.assertEqual(slope_of(()), ())

    def test_of_products(self):
        drawer = Drawer("slopes")
        for _ in range(50):
            one, other = self.drawn(drawer, 5), self.drawn(drawer, 4)
            product = plus_of(times_of(slope_of(one), other), times_of(one, slope_of(other)))
            self.assertEqual(slope_of(times_of(one, other)), product)

    def test_refused_and_lists(self):
        self.assert_bad_unknowns(("x", "y"), slope_of, TWO_UNKNOWNS)
        handed = nested_list(form_from("1*x^2 + 1*x + 1/2"))
        self.assertEqual(slope_of(handed), form_from("2*x + 1"))
        self.assertEqual(handed, nested_list(form_from("1*x^2 + 1*x + 1/2")))
        self.assertEqual(slope_of(form=X), ONE)
        self.assertEqual(slope_of([]), ())


class CommonOf(LineCase):
    def test_by_hand(self):
        for one, other, common in (
            ("1*x^2 + -1", "1*x + -1", "-1 + 1*x"), ("2*x^2 + -2", "3*x^2 + 6*x + 3", "1 + 1*x"), ("1*x", "1*x + 1", "1"),
            ("1*x^2 + -2", "1*x^2 + -3", "1"), ("-4*x^3", "6*x^2 + 1*x^5", "1*x^2"), ("2*x + 1", "2*x + 1", "1/2 + 1*x"),
        ):
            for pair in ((one, other), (other, one)):
                self.assertEqual(form_text(common_of(*map(form_from, pair))), common)

    def test_with_nought_and_numbers(self):
        self.assertEqual(common_of((), ()), ())
        self.assertEqual(common_of(form_from("2*x + 1"), ()), form_from("1*x + 1/2"))
        self.assertEqual(common_of((), form_from("-2*x + 1")), form_from("1*x + -1/2"))
        for one, other in (("5", "3"), ("5", "1*x"), ("1*x^2", "-1/9"), ("-5", "0/1")):
            one, other = form_from(one), () if other == "0/1" else form_from(other)
            self.assertEqual(common_of(one, other), ONE)
            self.assertEqual(common_of(other, one), ONE)

    def test_made_with_a_common_divisor(self):
        drawer = Drawer("common")
        for _ in range(150):
            inner = self.drawn(drawer, 4)
            one, other = form_from(drawer.chance.choice(NO_DIVISORS)), form_from(drawer.chance.choice(NO_DIVISORS))
            if one == other or inner == ():
                continue
            told = common_of(times_of(inner, one), weighed(times_of(inner, other), (-3, 7)))
            self.assertEqual(told, weighed(inner, lowest(*reversed(lead_of(inner)))))

    def test_drawn_divides_both(self):
        drawer = Drawer("divides both")
        for _ in range(150):
            one, other = self.drawn(drawer, 6), self.drawn(drawer, 6)
            common = common_of(one, other)
            if one or other:
                self.assertEqual(lead_of(common), (1, 1))
                self.assertEqual(divided(one, common)[1], ())
                self.assertEqual(divided(other, common)[1], ())

    def test_refused_and_lists(self):
        self.assert_bad_unknowns(("x", "y"), common_of, TWO_UNKNOWNS, ())
        self.assert_bad_unknowns(("x", "y"), common_of, unknown("y"), X)
        one, other = form_from("1*x^2 + -1/4"), form_from("2*x + 1")
        told = common_of(nested_list(one), nested_list(other))
        self.assertEqual(told, form_from("1*x + 1/2"))
        self.assertFalse(has_list(told))
        self.assertFalse(has_list(common_of(nested_list(one), [])))
        self.assertEqual(common_of(one=one, other=other), told)


class FreeParts(LineCase):
    def check(self, form):
        told = free_parts(form)
        self.assertIsInstance(told, list)
        numbers = [number for number, part in told]
        self.assertEqual(numbers, sorted(set(numbers)))
        product = number_form(lead_of(form))
        for number, part in told:
            self.assertTrue(is_form(part) and degree_of(part) >= 1 and lead_of(part) == (1, 1))
            self.assertEqual(common_of(part, slope_of(part)), ONE)
            for other, beside in told:
                self.assertTrue(other == number or common_of(part, beside) == ONE)
            for _ in range(number):
                product = times_of(product, part)
        self.assertEqual(product, form)
        return [(number, form_text(part)) for number, part in told]

    def test_by_hand(self):
        self.assertEqual(self.check(X), [(1, "1*x")])
        self.assertEqual(self.check(form_from("2*x^3")), [(3, "1*x")])
        self.assertEqual(self.check(form_from("-2*x + 1")), [(1, "-1/2 + 1*x")])
        self.assertEqual(self.check(roots_form(1, 1, 2)), [(1, "-2 + 1*x"), (2, "-1 + 1*x")])
        self.assertEqual(self.check(roots_form(1, 1, 1, 2, 2, 2, 0)), [(1, "1*x"), (3, "2 + -3*x + 1*x^2")])
        self.assertEqual(self.check(power_of(form_from("1*x^2 + 1"), 5)), [(5, "1 + 1*x^2")])
        self.assertEqual(self.check(form_from("1*x^24")), [(24, "1*x")])

    def test_numbers(self):
        self.assertEqual(free_parts(ONE), [])
        self.assertEqual(free_parts(form_from("-5/7")), [])

    def test_drawn(self):
        drawer = Drawer("free parts")
        for _ in range(120):
            form = number_form(drawer.above())
            while degree_of(form) < drawer.number(1, 7):
                form = times_of(form, power_of(self.drawn(drawer, 2) or ONE, drawer.number(1, 3)))
            if degree_of(form) > 0:
                self.check(form)

    def test_all_numbers_at_once(self):
        form = ONE
        for number, text in enumerate(("1*x + -1", "1*x^2 + 1", "1*x", "2*x + 3"), start=1):
            form = times_of(form, power_of(form_from(text), number))
        self.assertEqual([number for number, part in self.check(form)], [1, 2, 3, 4])

    def test_refused_and_lists(self):
        self.assert_no_parts(free_parts, ())
        self.assert_no_parts(free_parts, [])
        self.assert_bad_unknowns(("x", "y"), free_parts, TWO_UNKNOWNS)
        form = form_from("1*x^3 + 1/2*x^2")
        handed = nested_list(form)
        told = free_parts(handed)
        self.assertEqual(told, [(1, form_from("1*x + 1/2")), (2, X)])
        self.assertFalse(any(has_list(pair) for pair in told))
        self.assertEqual(handed, nested_list(form))
        told.clear()
        self.assertEqual(len(free_parts(form=form)), 2)
        self.assertIsNot(free_parts(ONE), free_parts(ONE))

    def test_of_another_unknown(self):
        told = free_parts(form_from("1*abcdefgh^2 + 2*abcdefgh + 1"))
        self.assertEqual(told, [(2, form_from("1*abcdefgh + 1"))])
        self.assertEqual(names_of(told[0][1]), ["abcdefgh"])
        self.assertIsNone(number_of(told[0][1]))


if __name__ == "__main__":
    unittest.main()
