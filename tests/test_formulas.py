import unittest

from squarepapers.errors import NoWorth
from squarepapers.formulas import is_formula, unknowns_of, worth_of

X = ("unknown", "x")
Y = ("unknown", "y")
TWO = ("number", (2, 1))
NOUGHT = ("number", (0, 1))
OVER_NOUGHT = ("over", X, NOUGHT)
ROOT_OF_TWO = ("root", TWO)
TWOFOLD = ("plus", "less", "times", "over")

FORMULAS = (
    X, TWO, NOUGHT, ("number", (-7, 12)), ("unknown", "abcdefgh"), ("unknown", "roots"), ("unknown", "qa"),
    ("plus", X, Y), ("less", X, Y), ("times", X, TWO), ("over", X, NOUGHT), ("power", X, 0), ("power", TWO, 6),
    ("root", X), ("root", ("root", TWO)), ("power", ("power", X, 2), 3),
    ("plus", ("less", X, ("times", Y, TWO)), ("over", ("power", X, 1), ("root", Y))),
)

NO_FORMULAS = (
    # other words, too few and too many parts
    (), ("number",), ("unknown",), ("root",), ("plus",), ("plus", X), ("plus", X, Y, TWO), ("less", X), ("times", X),
    ("over", X), ("over", X, Y, Y), ("power", X), ("power", X, 2, 2), ("root", X, X), ("number", (1, 2), (1, 2)),
    ("number", 1, 2), ("unknown", "x", "y"), ("minus", X, Y), ("sum", X, Y), ("Plus", X, Y), ("", X), (None, X),
    ("x",), ("name", "x"), ("root", X, 2), (1, X), (("plus",), X, Y), (["plus"], X, Y), (True, X), ("neg", X),
    # NAMEs
    ("unknown", "root"), ("unknown", ""), ("unknown", "abcdefghi"), ("unknown", "X"), ("unknown", "x1"),
    ("unknown", 1), ("unknown", None), ("unknown", ("x",)), ("unknown", X),
    # fractions
    ("number", (2, 4)), ("number", (0, 2)), ("number", (1, 0)), ("number", (1, -2)), ("number", (True, 1)),
    ("number", 1), ("number", "1"), ("number", [1, 2]), ("number", None), ("number", TWO),
    # powers
    ("power", X, -1), ("power", X, 7), ("power", X, True), ("power", X, False), ("power", X, None), ("power", X, "2"),
    ("power", X, (2, 1)), ("power", X, TWO), ("power", 2, X), ("power", "x", 2),
    # parts that are no formulas
    ("plus", X, "y"), ("plus", "x", Y), ("less", X, 1), ("less", 1, X), ("times", None, X), ("times", X, None),
    ("over", X, ()), ("over", (), X), ("root", ()), ("root", "x"), ("root", ("root",)), ("power", (), 2),
    ("plus", X, ("plus", X, ("power", X, 7))), ("root", ("plus", ("number", (2, 4)), X)),
    # lists where tuples are due
    [], list(X), ["number", (1, 2)], ("plus", list(X), Y), ("plus", X, list(Y)), ["plus", X, Y], ("root", list(X)),
    ("power", list(X), 2), ("plus", X, ("less", X, ["number", (1, 2)])),
    # other things
    True, False, None, 0, 1, "", "x", "number", (0,), ("number", (1, 2))[1], tuple(range(4000)), (X,), (X, Y),
)


def nested_list(thing):
    return [nested_list(part) for part in thing] if isinstance(thing, tuple) else thing


class IsFormula(unittest.TestCase):
    def test_formulas(self):
        for formula in FORMULAS:
            with self.subTest(formula):
                self.assertIs(is_formula(formula), True)

    def test_each_power(self):
        for many in range(7):
            self.assertIs(is_formula(("power", X, many)), True)

    def test_no_formulas(self):
        for thing in NO_FORMULAS:
            with self.subTest(repr(thing)[:60]):
                self.assertIs(is_formula(thing), False)

    def test_thirty_deep(self):
        right, wrong = X, ("unknown", "root")
        for _ in range(29):
            right, wrong = ("root", right), ("root", wrong)
        self.assertIs(is_formula(right), True)
        self.assertIs(is_formula(wrong), False)

    def test_what_is_asked_about_stays(self):
        thing = nested_list(FORMULAS[-1])
        is_formula(thing)
        self.assertEqual(thing, nested_list(FORMULAS[-1]))


class WorthOf(unittest.TestCase):
    PLACE = (("x", (9, 4)), ("y", (-1, 2)), ("z", (0, 1)))

    def worth(self, formula):
        return worth_of(formula, self.PLACE)

    def test_each_word(self):
        self.assertEqual(self.worth(("number", (-7, 12))), (-7, 12))
        self.assertEqual(self.worth(X), (9, 4))
        self.assertEqual(self.worth(("plus", X, Y)), (7, 4))
        self.assertEqual(self.worth(("less", X, Y)), (11, 4))
        self.assertEqual(self.worth(("times", X, Y)), (-9, 8))
        self.assertEqual(self.worth(("over", X, Y)), (-9, 2))
        self.assertEqual(self.worth(("over", Y, X)), (-2, 9))
        self.assertEqual(self.worth(("root", X)), (3, 2))
        self.assertEqual(self.worth(("root", NOUGHT)), (0, 1))

    def test_powers(self):
        for many, worth in enumerate(((1, 1), (-1, 2), (1, 4), (-1, 8), (1, 16), (-1, 32), (1, 64))):
            self.assertEqual(self.worth(("power", Y, many)), worth)
        self.assertEqual(self.worth(("power", NOUGHT, 0)), (1, 1))
        self.assertEqual(self.worth(("power", NOUGHT, 3)), (0, 1))

    def test_deeper(self):
        # root((x - 2) * 4) / (y + 1) = 1 / (1/2) = 2
        formula = ("over", ("root", ("times", ("less", X, TWO), ("number", (4, 1)))), ("plus", Y, ("number", (1, 1))))
        self.assertEqual(self.worth(formula), (2, 1))

    def test_none_over_nought(self):
        for part in (NOUGHT, ("unknown", "z"), ("less", X, X), ("power", NOUGHT, 2)):
            self.assertIsNone(self.worth(("over", X, part)))
        self.assertEqual(self.worth(("over", NOUGHT, X)), (0, 1))
        self.assertIsNone(self.worth(("over", NOUGHT, NOUGHT)))

    def test_none_of_what_has_no_root(self):
        for part in (TWO, Y, ("number", (-4, 1)), ("times", X, TWO)):
            self.assertIsNone(self.worth(("root", part)))

    def test_none_wherever_it_stands(self):
        for bare in (OVER_NOUGHT, ROOT_OF_TWO):
            for word in TWOFOLD:
                self.assertIsNone(self.worth((word, bare, X)))
                self.assertIsNone(self.worth((word, X, bare)))
                self.assertIsNone(self.worth((word, NOUGHT, bare)))
            self.assertIsNone(self.worth(("root", bare)))
            self.assertIsNone(self.worth(("times", NOUGHT, bare)))
            for many in range(7):
                self.assertIsNone(self.worth(("power", bare, many)))
            self.assertIsNone(self.worth(("power", ("plus", X, ("times", NOUGHT, bare)), 0)))

    def test_no_worth(self):
        formula = ("plus", ("unknown", "c"), ("times", ("unknown", "b"), ("unknown", "a")))
        for names, lacking in (("", "a"), ("a", "b"), ("ab", "c"), ("bc", "a"), ("xyz", "a")):
            with self.assertRaises(NoWorth) as caught:
                worth_of(formula, tuple((name, (1, 1)) for name in names))
            self.assertEqual(caught.exception.name, lacking)
            self.assertIsInstance(caught.exception, KeyError)

    def test_no_worth_ahead_of_none(self):
        lacking = ("unknown", "w")
        for formula in (
            ("plus", OVER_NOUGHT, lacking), ("plus", lacking, ROOT_OF_TWO), ("over", lacking, NOUGHT),
            ("power", ("plus", OVER_NOUGHT, lacking), 0), ("times", NOUGHT, lacking), ("power", lacking, 0),
        ):
            with self.assertRaises(NoWorth) as caught:
                self.worth(formula)
            self.assertEqual(caught.exception.name, "w")

    def test_lists(self):
        formula = nested_list(("plus", ("number", (1, 2)), ("power", X, 2)))
        place = [["x", [1, 2]]]
        self.assertEqual(worth_of(formula, place), (3, 4))
        self.assertEqual(worth_of(["number", [1, 2]], []), (1, 2))
        self.assertEqual(worth_of(["unknown", "x"], place), (1, 2))
        self.assertEqual(worth_of(formula=["unknown", "x"], place=place), (1, 2))
        self.assertEqual(formula, nested_list(("plus", ("number", (1, 2)), ("power", X, 2))))
        self.assertEqual(place, [["x", [1, 2]]])


class UnknownsOf(unittest.TestCase):
    def test_rising_each_once(self):
        self.assertEqual(unknowns_of(TWO), [])
        self.assertEqual(unknowns_of(X), ["x"])
        self.assertEqual(unknowns_of(("plus", Y, X)), ["x", "y"])
        self.assertEqual(unknowns_of(("plus", X, ("root", ("power", X, 0)))), ["x"])
        for word in TWOFOLD:
            self.assertEqual(unknowns_of((word, ("over", Y, X), (word, ("unknown", "b"), Y))), ["b", "x", "y"])
        self.assertEqual(unknowns_of(("power", ("root", ("unknown", "number")), 2)), ["number"])

    def test_lists(self):
        self.assertEqual(unknowns_of(nested_list(("plus", Y, ("root", X)))), ["x", "y"])
        told = unknowns_of(formula=X)
        told.append("y")
        self.assertEqual(unknowns_of(X), ["x"])


if __name__ == "__main__":
    unittest.main()
