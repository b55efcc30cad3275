import unittest

from drawing import Drawer, by_powers_of_x, form_from, has_list, nested_list
from squarepapers.chains import chain_of, roots_between
from squarepapers.errors import BadUnknowns, NoParts
from squarepapers.forms import form_text, is_form, number_form, plus_of, power_of, times_of, unknown, weighed
from squarepapers.fractions import compared, lowest
from squarepapers.lines import divided, slope_of

ONE = number_form((1, 1))
X = unknown("x")
TWO_UNKNOWNS = form_from("1*x + 1*y")


def made(*roots):
    """The form with these roots, fractions."""
    form = ONE
    for top, bottom in roots:
        form = times_of(form, plus_of(weighed(X, (bottom, 1)), number_form((-top, 1))))
    return form


class ChainOf(unittest.TestCase):
    def told(self, text):
        return [form_text(form) for form in chain_of(form_from(text))]

    def check(self, form):
        chain = chain_of(form)
        self.assertIsInstance(chain, list)
        self.assertTrue(all(is_form(part) and part != () for part in chain))
        self.assertEqual(chain[0], form)
        if len(chain) == 1:
            self.assertEqual(slope_of(form), ())
        else:
            self.assertEqual(chain[1], slope_of(form))
        for one, other, rest in zip(chain, chain[1:], chain[2:]):
            self.assertEqual(rest, weighed(divided(one, other)[1], (-1, 1)))
        if len(chain) > 1:
            self.assertEqual(divided(chain[-2], chain[-1])[1], ())

    def test_by_hand(self):
        self.assertEqual(chain_of(()), [])
        self.assertEqual(self.told("5/7"), ["5/7"])
        self.assertEqual(self.told("-2*x + 1"), ["1 + -2*x", "-2"])
        self.assertEqual(self.told("1*x^2 + -2"), ["-2 + 1*x^2", "2*x", "2"])
        self.assertEqual(self.told("1*x^2 + 2"), ["2 + 1*x^2", "2*x", "-2"])
        self.assertEqual(self.told("1*x^2"), ["1*x^2", "2*x"])
        self.assertEqual(self.told("1*x^3 + -3*x + 1"), ["1 + -3*x + 1*x^3", "-3 + 3*x^2", "-1 + 2*x", "9/4"])
        self.assertEqual(self.told("-1*x^2 + 1*x"), ["1*x + -1*x^2", "1 + -2*x", "-1/4"])

    def test_roots_twice(self):
        self.assertEqual(self.told("1*x^3"), ["1*x^3", "3*x^2"])
        self.assertEqual(self.told("1*x^3 + -1*x^2"), ["-1*x^2 + 1*x^3", "-2*x + 3*x^2", "2/9*x"])
        self.check(made((1, 1), (1, 1), (2, 1), (2, 1), (2, 1), (5, 3)))
        self.check(power_of(form_from("1*x^2 + -2"), 4))

    def test_drawn(self):
        drawer = Drawer("chains")
        for _ in range(100):
            form = drawer.form(("x",), drawer.number(0, 8), 7)
            if form:
                self.check(form)

    def test_ten_roots_and_great_numbers(self):
        self.check(made(*[(many * many - 30, many + 1) for many in range(10)]))
        self.check(by_powers_of_x(*[(10 ** 60 - 7 * k * k, 10 ** 59 + k) for k in range(11)]))

    def test_what_was_told_handed_in_again(self):
        for form in chain_of(made(*[(many, 3) for many in range(-4, 6)])):
            self.check(form)

    def test_refused_and_lists(self):
        with self.assertRaises(BadUnknowns) as caught:
            chain_of(TWO_UNKNOWNS)
        self.assertEqual(caught.exception.names, ("x", "y"))
        self.assertIsInstance(caught.exception, ValueError)
        handed = nested_list(form_from("1*x^2 + -1/2"))
        told = chain_of(handed)
        self.assertEqual(told, chain_of(form_from("1*x^2 + -1/2")))
        self.assertFalse(any(has_list(form) for form in told))
        self.assertEqual(handed, nested_list(form_from("1*x^2 + -1/2")))
        self.assertFalse(any(has_list(form) for form in chain_of([[[], [1, 2]]])))
        told.clear()
        self.assertEqual(len(chain_of(form=form_from("1*x^2 + -1/2"))), 3)
        self.assertIsNot(chain_of(()), chain_of([]))


class RootsBetween(unittest.TestCase):
    def count(self, text, low, high):
        return roots_between(form_from(text), low, high)

    def test_ends(self):
        form = made((1, 1), (2, 1), (3, 1))
        for low, high, many in (
            (None, None, 3), ((0, 1), (4, 1), 3), ((1, 1), (3, 1), 2), ((1, 1), (2, 1), 1), ((1, 2), (1, 1), 1),
            ((1, 1), (3, 2), 0), ((2, 1), None, 1), ((3, 1), None, 0), (None, (3, 1), 3), (None, (2, 1), 2), (None, (1, 1), 1),
            (None, (1, 2), 0), ((5, 2), (7, 2), 1), ((4, 1), None, 0),
        ):
            with self.subTest(low=low, high=high):
                self.assertEqual(roots_between(form, low, high), many)

    def test_low_not_below_high(self):
        form = made((1, 1), (2, 1), (3, 1))
        for low, high in (((4, 1), (0, 1)), ((2, 1), (2, 1)), ((3, 1), (1, 1)), ((1, 2), (1, 3)), ((7, 2), (5, 2))):
            self.assertEqual(roots_between(form, low, high), 0)

    def test_roots_twice_are_counted_once(self):
        form = made((1, 1), (1, 1), (2, 1), (2, 1), (2, 1))
        for low, high, many in (
            (None, None, 2), ((1, 1), (2, 1), 1), ((0, 1), (1, 1), 1), ((0, 1), (2, 1), 2), ((2, 1), None, 0), (None, (1, 1), 1),
            ((1, 1), None, 1), ((3, 2), (2, 1), 1), ((1, 1), (3, 2), 0),
        ):
            with self.subTest(low=low, high=high):
                self.assertEqual(roots_between(form, low, high), many)
        self.assertEqual(self.count("1*x^24", (-1, 1), (0, 1)), 1)
        self.assertEqual(self.count("1*x^24", (0, 1), (1, 1)), 0)

    def test_no_fractions(self):
        self.assertEqual(self.count("1*x^2 + -2", None, None), 2)
        self.assertEqual(self.count("1*x^2 + -2", (0, 1), None), 1)
        self.assertEqual(self.count("1*x^2 + -2", (141, 100), (142, 100)), 1)
        self.assertEqual(self.count("1*x^2 + -2", (71, 50), (2, 1)), 0)
        self.assertEqual(self.count("-1*x^2 + -2", None, None), 0)
        self.assertEqual(self.count("1*x^3 + -2", None, None), 1)
        self.assertEqual(self.count("-1*x^3 + 3*x + -1", None, None), 3)
        self.assertEqual(self.count("-1*x^3 + 3*x + -1", (0, 1), None), 2)
        self.assertEqual(self.count("1*x^4 + -5*x^2 + 6", None, (0, 1)), 2)

    def test_numbers_and_degree_1(self):
        self.assertEqual(self.count("5/7", None, None), 0)
        self.assertEqual(self.count("-1", (0, 1), (1, 1)), 0)
        self.assertEqual(self.count("-2*x + 1", None, None), 1)
        self.assertEqual(self.count("-2*x + 1", (1, 2), None), 0)
        self.assertEqual(self.count("-2*x + 1", None, (1, 2)), 1)
        self.assertEqual(self.count("1*x", (-1, 1), (0, 1)), 1)

    def test_drawn(self):
        drawer = Drawer("roots between")
        for _ in range(200):
            roots = [drawer.fraction(5) for _ in range(drawer.number(1, 8))]
            form = times_of(made(*roots), form_from(drawer.chance.choice(("-1", "1*x^2 + 1", "1*x^2 + 1*x + 7", "3"))))
            low, high = drawer.fraction(6), drawer.fraction(6)
            within = {root for root in roots if compared(low, root) < 0 and compared(root, high) <= 0}
            self.assertEqual(roots_between(form, low, high), len(within))
            self.assertEqual(roots_between(form, low, None), len({root for root in roots if compared(low, root) < 0}))
            self.assertEqual(roots_between(form, None, high), len({root for root in roots if compared(root, high) <= 0}))

    def test_ten_roots_near_one_another(self):
        roots = [lowest(10 ** 50 + many, 10 ** 50) for many in range(10)]
        form = made(*roots)
        self.assertEqual(roots_between(form, None, None), 10)
        self.assertEqual(roots_between(form, roots[2], roots[7]), 5)

    def test_refused(self):
        for low, high in ((None, None), ((0, 1), (1, 1)), ((1, 1), (0, 1))):
            with self.assertRaises(NoParts) as caught:
                roots_between((), low, high)
            self.assertIsInstance(caught.exception, ZeroDivisionError)
            with self.assertRaises(BadUnknowns) as caught:
                roots_between(TWO_UNKNOWNS, low, high)
            self.assertEqual(caught.exception.names, ("x", "y"))
            self.assertIsInstance(caught.exception, ValueError)

    def test_lists(self):
        form = nested_list(form_from("1*x^2 + -1/2"))
        self.assertEqual(roots_between(form, [0, 1], [1, 1]), 1)
        self.assertEqual(roots_between(form, [1, 1], [0, 1]), 0)
        self.assertEqual(roots_between(form=form, low=None, high=[0, 1]), 1)
        self.assertEqual(form, nested_list(form_from("1*x^2 + -1/2")))


if __name__ == "__main__":
    unittest.main()
