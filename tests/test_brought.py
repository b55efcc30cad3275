import unittest

from drawing import Drawer, has_list, nested_list
from squarepapers.brought import brought, lifted, parts_of, splits_of
from squarepapers.errors import NoWorth
from squarepapers.forms import form_in, form_text, is_form, names_of
from squarepapers.formulas import unknowns_of, worth_of
from squarepapers.formulatexts import formula_in, formula_text
from squarepapers.fractions import lowest, sign_of
from squarepapers.places import is_place, worth_at


def parts(text):
    top, bottom = parts_of(formula_in(text))
    return form_text(top), form_text(bottom)


def splits(text):
    return [form_text(form) for form in splits_of(formula_in(text))]


def claim(text):
    conditions, goal = brought(formula_in(text))
    return [form_text(form) for form in conditions], form_text(goal)


class PartsOf(unittest.TestCase):
    def test_numbers_and_unknowns(self):
        self.assertEqual(parts("0"), ("0", "1"))
        self.assertEqual(parts("-7/12"), ("-7/12", "1"))
        self.assertEqual(parts("x"), ("1*x", "1"))

    def test_sums_and_products(self):
        self.assertEqual(parts("(x + y)"), ("1*x + 1*y", "1"))
        self.assertEqual(parts("(x - y)"), ("1*x + -1*y", "1"))
        self.assertEqual(parts("(x * y)"), ("1*x*y", "1"))
        self.assertEqual(parts("(x / y)"), ("1*x", "1*y"))

    def test_of_parts_with_bottoms(self):
        self.assertEqual(parts("((a / b) + (c / d))"), ("1*a*d + 1*b*c", "1*b*d"))
        self.assertEqual(parts("((a / b) - (c / d))"), ("1*a*d + -1*b*c", "1*b*d"))
        self.assertEqual(parts("((a / b) * (c / d))"), ("1*a*c", "1*b*d"))
        self.assertEqual(parts("((a / b) / (c / d))"), ("1*a*d", "1*b*c"))
        self.assertEqual(parts("(a / b)^3"), ("1*a^3", "1*b^3"))

    def test_nothing_is_shortened(self):
        self.assertEqual(parts("(x / x)"), ("1*x", "1*x"))
        self.assertEqual(parts("((x / y) + (z / y))"), ("1*x*y + 1*y*z", "1*y^2"))
        self.assertEqual(parts("((2 * x) / 4)"), ("2*x", "4"))
        self.assertEqual(parts("((x / y) * y)"), ("1*x*y", "1*y"))
        self.assertEqual(parts("(x / 0)"), ("1*x", "0"))
        self.assertEqual(parts("((x / 0) + (1 / 0))"), ("0", "0"))

    def test_powers(self):
        self.assertEqual(parts("(x + 1)^2"), ("1 + 2*x + 1*x^2", "1"))
        self.assertEqual(parts("(x / y)^0"), ("1", "1"))
        self.assertEqual(parts("(0)^0"), ("1", "1"))
        self.assertEqual(parts("(x / y)^1"), ("1*x", "1*y"))
        self.assertEqual(parts("(x / (y / 2))^6"), ("64*x^6", "1*y^6"))

    def test_roots_are_new_unknowns(self):
        self.assertEqual(parts("root(x)"), ("1*qa", "1"))
        self.assertEqual(parts("root((x / y))"), ("1*qa", "1"))
        self.assertEqual(parts("(x / root(y))"), ("1*x", "1*qa"))

    def test_in_the_order_in_which_they_are_come_to(self):
        self.assertEqual(parts("(root(y) - root(x))"), ("1*qa + -1*qb", "1"))
        self.assertEqual(parts("(x / (root(y) - (2 * root(x))))"), ("1*x", "1*qa + -2*qb"))
        # inner ones ahead
        self.assertEqual(parts("root(root(x))"), ("1*qb", "1"))
        self.assertEqual(parts("(root((x + root(y))) + (2 * root(z)))"), ("1*qb + 2*qc", "1"))
        self.assertEqual(parts("((3 * root(z)) - root((root(x) + root(y))))"), ("3*qa + -1*qd", "1"))
        # within a power 0, too
        self.assertEqual(parts("(root(x)^0 + root(y))"), ("1 + 1*qb", "1"))

    def test_like_ones_are_one(self):
        self.assertEqual(parts("(root(x) + root(x))"), ("2*qa", "1"))
        self.assertEqual(parts("(root(x) * root((y + root(x))))"), ("1*qa*qb", "1"))
        self.assertEqual(parts("(root((x + root(y))) - (root(y) * root((x + root(y)))))"), ("-1*qa*qb + 1*qb", "1"))
        self.assertEqual(parts("(root(x) + (2 * root(y))^2)"), ("1*qa + 4*qb^2", "1"))
        # like trees only
        self.assertEqual(parts("(root((x + y)) - root((y + x)))"), ("1*qa + -1*qb", "1"))
        self.assertEqual(parts("(root(4) + root((2 + 2)))"), ("1*qa + 1*qb", "1"))
        self.assertEqual(parts("(root(x) + (root(y) + (root(x) + root(y))))"), ("2*qa + 2*qb", "1"))

    def test_eight_of_them(self):
        text = "root(a)"
        for name in "bcdefgh":
            text = f"({text} + root({name}))"
        self.assertEqual(parts(text)[0], " + ".join("1*q" + letter for letter in "abcdefgh"))

    def test_beyond_the_bound_nothing_is_refused(self):
        formula = ("root", ("unknown", "x"))
        for _ in range(29):
            formula = ("root", formula)
        conditions, goal = brought(formula)
        self.assertEqual(len({names_of(form)[0] for form in conditions[::3]}), 30)
        self.assertEqual(len(names_of(goal)), 1)
        self.assertTrue(all(is_form(form) for form in conditions))

    def test_lists(self):
        formula = formula_in("((root((x / y)) + root(x))^2 / (root(x) - 1/2))")
        handed = nested_list(formula)
        self.assertEqual(parts_of(handed), parts_of(formula))
        self.assertFalse(has_list(parts_of(handed)))
        self.assertEqual(handed, nested_list(formula))
        # A list and a tuple of the same are like trees.
        mixed = ("plus", ("root", ("unknown", "x")), ["root", ["unknown", "x"]])
        self.assertEqual(parts_of(mixed), (form_in("2*qa"), form_in("1")))
        self.assertEqual(len(brought(mixed)[0]), 3)
        self.assertEqual(parts_of(formula=["number", [1, 2]]), (form_in("1/2"), form_in("1")))


class SplitsOf(unittest.TestCase):
    def test_none(self):
        for text in ("0", "1/2", "x", "((x + y) * x)^3", "root(x)"):
            self.assertEqual(splits(text), [])

    def test_tops_of_what_is_parted_by(self):
        self.assertEqual(splits("(x / y)"), ["1*y"])
        self.assertEqual(splits("(x / 2)"), ["2"])
        self.assertEqual(splits("(x / (y / z))"), ["1*z", "1*y"])
        self.assertEqual(splits("((a / b) / (c / d))"), ["1*b", "1*d", "1*c"])
        self.assertEqual(splits("(x / (y + (1 / z)))"), ["1*z", "1 + 1*y*z"])
        self.assertEqual(splits("(x / 0)"), ["0"])

    def test_in_order(self):
        self.assertEqual(splits("((x / y) + (y / x))"), ["1*y", "1*x"])
        self.assertEqual(splits("(((x / a) / b) / c)"), ["1*a", "1*b", "1*c"])
        self.assertEqual(splits("((x / (y - z)) * (1 / root(x)))"), ["1*y + -1*z", "1*qa"])

    def test_as_often_as_they_stand(self):
        self.assertEqual(splits("((x / y) + (x / y))"), ["1*y", "1*y"])
        self.assertEqual(splits("(x / y)^6"), ["1*y"])
        self.assertEqual(splits("(x / y)^0"), ["1*y"])
        self.assertEqual(splits("((x / y)^0 / z)^0"), ["1*y", "1*z"])

    def test_within_roots(self):
        self.assertEqual(splits("root((x / y))"), ["1*y"])
        self.assertEqual(splits("(root((x / y)) * root((x / y)))"), ["1*y", "1*y"])
        self.assertEqual(splits("(1 / root((x / y)))"), ["1*y", "1*qa"])
        self.assertEqual(splits("(root((x / y)) / (root((x / y)) + 1))"), ["1*y", "1*y", "1 + 1*qa"])

    def test_lists(self):
        formula = formula_in("((x / y) / root((x / 2)))")
        handed = nested_list(formula)
        told = splits_of(handed)
        self.assertEqual(told, splits_of(formula))
        self.assertIsInstance(told, list)
        self.assertEqual(handed, nested_list(formula))
        told.clear()
        self.assertEqual(len(splits_of(formula)), 3)
        self.assertIsNot(splits_of(("unknown", "x")), splits_of(("unknown", "x")))
        self.assertEqual(splits_of(formula=("unknown", "x")), [])


class Brought(unittest.TestCase):
    def test_without_over_and_root(self):
        self.assertEqual(claim("((x - 1)^2 * y)"), ([], "-2*x*y + 1*x^2*y + 1*y"))
        self.assertEqual(claim("0"), ([], "0"))
        self.assertEqual(brought(("number", (1, 2))), ((), form_in("1/2")))

    def test_goals(self):
        self.assertEqual(claim("(x / y)"), ([], "1*x*y^3"))
        self.assertEqual(claim("(x / 2)"), ([], "8*x"))
        self.assertEqual(claim("((x / y) + 1)"), ([], "1*x*y^3 + 1*y^4"))
        self.assertEqual(claim("(x / (y / z))"), ([], "1*x*y^3*z^3"))
        self.assertEqual(claim("(x / y)^2"), ([], "1*x^2*y^4"))
        self.assertEqual(claim("(x / y)^0"), ([], "1*y^2"))
        self.assertEqual(claim("(x / 0)"), ([], "0"))
        self.assertEqual(claim("((1 / x) - (1 / x))"), ([], "0"))

    def test_conditions(self):
        self.assertEqual(claim("root(x)"), (["1*qa", "1*qa^2 + -1*x", "-1*qa^2 + 1*x"], "1*qa"))
        self.assertEqual(
            claim("(root((x / y)) - 2)"),
            (["1*qa", "1*qa^2*y^2 + -1*x*y", "-1*qa^2*y^2 + 1*x*y"], "1*qa*y^2 + -2*y^2"),
        )
        self.assertEqual(claim("root(4)"), (["1*qa", "-4 + 1*qa^2", "4 + -1*qa^2"], "1*qa"))

    def test_conditions_in_order(self):
        conditions, goal = claim("(root((z + root(y))) * root(x))")
        self.assertEqual(conditions, [
            "1*qa", "1*qa^2 + -1*y", "-1*qa^2 + 1*y",
            "1*qb", "-1*qa + 1*qb^2 + -1*z", "1*qa + -1*qb^2 + 1*z",
            "1*qc", "1*qc^2 + -1*x", "-1*qc^2 + 1*x",
        ])
        self.assertEqual(goal, "1*qb*qc")

    def test_roots_within_a_power_0_have_conditions(self):
        self.assertEqual(claim("root(x)^0"), (["1*qa", "1*qa^2 + -1*x", "-1*qa^2 + 1*x"], "1"))

    def test_root_of_what_has_a_root_below(self):
        conditions, goal = claim("root((x / root(y)))")
        self.assertEqual(conditions[3:], ["1*qb", "-1*qa*x + 1*qa^2*qb^2", "1*qa*x + -1*qa^2*qb^2"])
        self.assertEqual(goal, "1*qa^2*qb")

    def test_lists(self):
        formula = formula_in("(root((x / y)) - 1/2)")
        handed = nested_list(formula)
        told = brought(handed)
        self.assertEqual(told, brought(formula))
        self.assertFalse(has_list(told))
        self.assertEqual(handed, nested_list(formula))
        self.assertEqual(brought(formula=formula), told)


class Lifted(unittest.TestCase):
    PLACE = (("a", (5, 1)), ("x", (4, 1)), ("y", (9, 1)), ("z", (0, 1)))

    def test_new_unknowns_among_the_others(self):
        self.assertEqual(
            lifted(formula_in("(root(x) - root((x / y)))"), self.PLACE),
            (("a", (5, 1)), ("qa", (2, 1)), ("qb", (2, 3)), ("x", (4, 1)), ("y", (9, 1)), ("z", (0, 1))),
        )
        self.assertEqual(lifted(formula_in("root(root(16))"), ()), (("qa", (4, 1)), ("qb", (2, 1))))

    def test_without_roots_the_place_itself(self):
        self.assertEqual(lifted(formula_in("(x / y)"), self.PLACE), self.PLACE)
        self.assertEqual(lifted(formula_in("1"), ()), ())
        self.assertEqual(lifted(formula_in("1"), self.PLACE), self.PLACE)

    def test_none(self):
        for text in ("(x / z)", "root(a)", "(root(x) + root((z - 1)))", "(1 / z)^0", "(0 * root(2))", "root((x / z))"):
            self.assertIsNone(lifted(formula_in(text), self.PLACE))

    def test_no_worth(self):
        for text, lacking in (("(b + root(c))", "b"), ("(root(w) + root(c))", "c"), ("((x / z) + w)", "w"), ("w^0", "w")):
            with self.assertRaises(NoWorth) as caught:
                lifted(formula_in(text), self.PLACE)
            self.assertEqual(caught.exception.name, lacking)
            self.assertIsInstance(caught.exception, KeyError)

    def test_lists(self):
        formula, place = formula_in("(root(x) / y)"), nested_list(self.PLACE)
        told = lifted(nested_list(formula), place)
        self.assertEqual(told, lifted(formula, self.PLACE))
        self.assertFalse(has_list(told))
        self.assertFalse(has_list(lifted(formula_in("x"), place)))
        self.assertEqual(place, nested_list(self.PLACE))
        self.assertEqual(lifted(formula=formula, place=self.PLACE), told)


class SignsAgree(unittest.TestCase):
    """The goal has the sign of the formula, and all conditions hold, at drawn places."""

    NAMES = ("x", "y", "z")

    def drawn(self, drawer, deep):
        word = drawer.chance.choice(("number", "unknown", "plus", "less", "times", "over", "over", "power", "root"))
        if deep == 0 or word == "unknown":
            return ("unknown", drawer.chance.choice(self.NAMES))
        if word == "number":
            return ("number", drawer.fraction(4))
        if word == "power":
            return (word, self.drawn(drawer, deep - 1), drawer.number(0, 2))
        if word == "root":
            # A square has a root at each place.
            inner = self.drawn(drawer, deep - 1)
            return (word, drawer.chance.choice((("power", inner, 2), ("times", inner, inner), inner)))
        return (word, self.drawn(drawer, deep - 1), self.drawn(drawer, deep - 1))

    def check(self, formula, place):
        worth = worth_of(formula, place)
        told = lifted(formula, place)
        if worth is None:
            self.assertIsNone(told)
            return 0
        self.assertTrue(is_place(told))
        self.assertEqual([pair for pair in told if pair[0][0] != "q"], list(place))
        conditions, goal = brought(formula)
        self.assertEqual(sign_of(worth_at(goal, told)), sign_of(worth), formula_text(formula))
        for condition in conditions:
            self.assertGreaterEqual(worth_at(condition, told)[0], 0)
        return 1

    def test_drawn(self):
        drawer = Drawer("signs agree")
        done = 0
        while done < 400:
            formula = self.drawn(drawer, 3)
            top, bottom = parts_of(formula)
            if len(brought(formula)[1]) > 200 or len(top) * len(bottom) > 2000:
                continue
            for _ in range(3):
                done += self.check(formula, drawer.place(self.NAMES, 4))

    def test_a_goal_below_nought_only_where_the_formula_is(self):
        formula = formula_in("(((x / y) + (y / x)) - 2)")
        self.assertEqual(unknowns_of(formula), ["x", "y"])
        for x in range(-4, 5):
            for y in range(-4, 5):
                place = (("x", lowest(x, 3)), ("y", lowest(y, 2)))
                goal = worth_at(brought(formula)[1], place)
                worth = worth_of(formula, place)
                self.assertEqual(goal[0] < 0, worth is not None and worth[0] < 0)


if __name__ == "__main__":
    unittest.main()
