import unittest
from itertools import product
from math import gcd

from squarepapers.errors import BadText
from squarepapers.formulas import is_formula, unknowns_of, worth_of
from squarepapers.formulatexts import formula_in, formula_text

X = ("unknown", "x")
Y = ("unknown", "y")
TWO = ("number", (2, 1))
LESS_ONE = ("number", (-1, 1))

TEXTS = (
    ("0", ("number", (0, 1))),
    ("2", TWO),
    ("-1", LESS_ONE),
    ("-7/12", ("number", (-7, 12))),
    ("2/41", ("number", (2, 41))),
    ("1" + "0" * 12, ("number", (10 ** 12, 1))),
    ("x", X),
    ("abcdefgh", ("unknown", "abcdefgh")),
    ("roo", ("unknown", "roo")),
    ("roots", ("unknown", "roots")),
    ("aroot", ("unknown", "aroot")),
    ("(x + y)", ("plus", X, Y)),
    ("(x - y)", ("less", X, Y)),
    ("(x * y)", ("times", X, Y)),
    ("(x / y)", ("over", X, Y)),
    ("(1/2 / -1)", ("over", ("number", (1, 2)), LESS_ONE)),
    ("(x - -1)", ("less", X, LESS_ONE)),
    ("x^0", ("power", X, 0)),
    ("x^6", ("power", X, 6)),
    ("(2)^3", ("power", TWO, 3)),
    ("(0)^0", ("power", ("number", (0, 1)), 0)),
    ("(-1)^2", ("power", LESS_ONE, 2)),
    ("(1/2)^2", ("power", ("number", (1, 2)), 2)),
    ("(x^2)^3", ("power", ("power", X, 2), 3)),
    ("((2)^2)^3", ("power", ("power", TWO, 2), 3)),
    ("(((x^1)^2)^3)^4", ("power", ("power", ("power", ("power", X, 1), 2), 3), 4)),
    ("(x + y)^2", ("power", ("plus", X, Y), 2)),
    ("((x + y)^2)^2", ("power", ("power", ("plus", X, Y), 2), 2)),
    ("root(x)", ("root", X)),
    ("root(2)", ("root", TWO)),
    ("root(x)^2", ("power", ("root", X), 2)),
    ("(root(x)^2)^2", ("power", ("power", ("root", X), 2), 2)),
    ("root(x^2)", ("root", ("power", X, 2))),
    ("root((x + y))", ("root", ("plus", X, Y))),
    ("root(root(root(x)))", ("root", ("root", ("root", X)))),
    ("((2)^2 + x)", ("plus", ("power", TWO, 2), X)),
    ("(x + (2)^2)", ("plus", X, ("power", TWO, 2))),
    ("((x + y) * (x - y))", ("times", ("plus", X, Y), ("less", X, Y))),
    ("(((x + 2) - y) / root(x))", ("over", ("less", ("plus", X, TWO), Y), ("root", X))),
    ("(x + (y + (x + 2)))", ("plus", X, ("plus", Y, ("plus", X, TWO)))),
)

BAD = (
    # the document's own
    ("2/4", 3), ("(2/4 + x)", 4),
    # something is wanting
    ("", 0), ("-", 1), ("1/", 2), ("1/1", 3), ("4/2", 3), ("-6/3", 4), ("(", 1), ("(x", 2), ("(x ", 3), ("(x +", 4),
    ("(x + ", 5), ("(x + y", 6), ("x^", 2), ("(2", 2), ("(2)", 3), ("(2)^", 4), ("(x^2", 4), ("(x^2)", 5), ("(x^2)^", 6),
    ("root", 4), ("root(", 5), ("root(x", 6), ("(root", 5), ("((x + y)", 8), ("(x + root", 9), ("(x + -", 6), ("(1/3", 4),
    ("(2/4", 4), ("root(2/4", 8), ("((((", 4),
    # numbers
    ("00", 1), ("01", 1), ("-0", 1), ("--1", 1), ("-x", 1), ("+1", 0), ("0/5", 1), ("0/1", 1), ("1/0", 2), ("1/-2", 2),
    ("1/02", 2), ("1/x", 2), ("1//2", 2), ("1/2/3", 3), ("2/4/3", 3), ("1.5", 1), ("2/4)", 3), ("(2/4)^2", 4), ("2/4x", 3),
    ("(x + 2/4)", 8), ("(x + 1/1)", 8), ("(x + -0)", 6), ("1/2x", 3), ("2x", 1), ("1 ", 1), (" 1", 0), ("/2", 0), ("2^3", 1),
    ("1/2^3", 3), ("(2^3)", 2), ("(x + 2^3)", 6), ("root(2^3)", 6),
    # NAMEs and roots
    ("X", 0), ("x1", 1), ("xY", 1), ("abcdefghi", 8), ("(abcdefghi + x)", 9), ("x ", 1), ("x\n", 1), ("\nx", 0), ("x_", 1),
    ("root ", 4), ("root + x", 4), ("(root + x)", 5), ("root^2", 4), ("(x + root)", 9), ("roots(x)", 5), ("xroot(x)", 5),
    ("root()", 5), ("root( x)", 5), ("root(x )", 6), ("root(x + y)", 6), ("root(x))", 7), ("rootabcde", 8), ("roo(x)", 3),
    ("root(x)x", 7), ("root(x)(x)", 7), ("root((x)", 7), ("root[x]", 4), ("abcdefgh(", 8),
    # brackets and signs of two
    ("()", 1), (")", 0), ("(x)", 2), ("((x + y))", 8), ("(root(x))", 8), ("(x) + y", 2), ("x + y", 1), ("x+y", 1),
    ("(x+y)", 2), ("(x +y)", 4), ("(x+ y)", 2), ("(x  + y)", 3), ("(x +  y)", 5), ("( x + y)", 1), ("(x + y )", 6),
    ("(x + y", 6), ("(x + y))", 7), ("(x + y + x)", 6), ("(x ^ y)", 3), ("(x & y)", 3), ("(x ** y)", 4), ("(x + y) ", 7),
    ("(x , y)", 3), ("(x + )", 5), ("( + y)", 1), ("(x y)", 3), ("(x +", 4), ("(x - - y)", 6), ("((x + y) + )", 11),
    ("((2) + x)", 4), ("((2)^2)", 7), ("((2)^2) ", 7), ("(x / )", 5), ("[x + y]", 0), ("(x + y)x", 7), ("(x + y)(x + y)", 7),
    ("(x + (y))", 7), ("(x +\ny)", 4), ("(x = y)", 3), ("(x * y}", 6),
    # powers
    ("x^7", 2), ("x^9", 2), ("x^-1", 2), ("x^22", 3), ("x^06", 3), ("x^y", 2), ("x^(2)", 2), ("x^ 2", 2), ("x ^2", 1),
    ("x^2^2", 3), ("(2)^3^2", 5), ("(2)2", 3), ("(2) ^2", 3), ("(x^2)2", 5), ("(x + y)^7", 8), ("(x + y)^2^2", 9),
    ("root(x)^7", 8), ("root(x)^2^2", 9), ("(x^2^3)", 4), ("(x^2)^3^4", 7), ("^2", 0), ("x^1/2", 3), ("(x + y^7)", 7),
    ("x^\u0662", 2), ("\u0662", 0), ("1\u0662", 1),
)


class Oracle:
    """Tells by trying all ways that the grammar lets how far a text can go on.

    Each method tells the set of ends that what it is called after may have from at
    on; far is the last sign that was asked for.
    """

    def __init__(self, text):
        self.text = text
        self.far = 0

    def signs(self, starts, *kinds):
        """The ends of one sign of each of kinds, one behind the other."""
        ends = set(starts)
        for kind in kinds:
            self.far = max([self.far, *ends])
            ends = {at + 1 for at in ends if at < len(self.text) and self.text[at] in kind}
        return ends

    def figures(self, at):
        ends, here = set(), self.signs({at}, "123456789")
        while here:
            ends |= here
            here = self.signs(here, "0123456789")
        return ends

    def number(self, at):
        ends = self.signs({at}, "0")
        start = at + len(self.signs({at}, "-"))
        for top in self.figures(start):
            ends.add(top)
            for middle in self.signs({top}, "/"):
                for bottom in self.figures(middle):
                    below = int(self.text[middle:bottom])
                    if below > 1 and gcd(int(self.text[start:top]), below) == 1:
                        ends.add(bottom)
        return ends

    def name(self, at):
        ends, here = set(), {at}
        for _ in range(8):
            here = self.signs(here, "abcdefghijklmnopqrstuvwxyz")
            ends |= here
        return {end for end in ends if self.text[at:end] != "root"}

    def formulas(self, starts):
        return {end for at in starts for end in self.formula(at)}

    def unpowered(self, at):
        """Of formulas that need no bracket ahead of a power."""
        inner = self.signs({at}, "r", "o", "o", "t", "(")
        front = self.signs({at}, "(")
        other = self.signs(self.formulas(front), " ", "+-*/", " ")
        return self.name(at) | self.signs(self.formulas(inner), ")") | self.signs(self.formulas(other), ")")

    def power(self, at):
        bases = self.unpowered(at)
        for inner in self.signs({at}, "("):
            bases |= self.signs(self.number(inner) | self.power(inner), ")")
        return self.signs(bases, "^", "0123456")

    def formula(self, at):
        return self.number(at) | self.unpowered(at) | self.power(at)

    def spot(self):
        """None where the text is a formula's."""
        ends = self.formula(0)
        return None if len(self.text) in ends else max([self.far, *ends])


def told_spot(text):
    try:
        formula_in(text)
    except BadText as error:
        return error.spot
    return None


def nested_list(thing):
    return [nested_list(part) for part in thing] if isinstance(thing, tuple) else thing


def trees(deep):
    """All formulas so deep over some leaves, one power and each word."""
    leaves = [X, ("number", (-1, 2))]
    if deep == 0:
        return leaves
    within = trees(deep - 1)
    told = list(leaves)
    for word in ("plus", "less", "times", "over"):
        told.extend((word, one, other) for one, other in product(within, repeat=2))
    for one in within:
        told.extend([("power", one, 3), ("root", one)])
    return told


class Written(unittest.TestCase):
    def test_each_way(self):
        for text, formula in TEXTS:
            with self.subTest(text):
                self.assertTrue(is_formula(formula))
                self.assertEqual(formula_text(formula), text)
                self.assertEqual(formula_in(text), formula)

    def test_there_and_back(self):
        texts = set()
        formulas = trees(2)
        for formula in formulas:
            text = formula_text(formula)
            texts.add(text)
            self.assertEqual(formula_in(text), formula)
        self.assertEqual(len(texts), len(set(formulas)))

    def test_each_power(self):
        for many in range(7):
            self.assertEqual(formula_text(("power", X, many)), "x^" + str(many))
            self.assertEqual(formula_in("x^" + str(many)), ("power", X, many))

    def test_great_numbers(self):
        formula = ("plus", ("number", (-7 ** 6000, 2 ** 9000)), X)
        self.assertEqual(formula_in(formula_text(formula)), formula)

    def test_lists(self):
        for text, formula in TEXTS:
            handed = nested_list(formula)
            self.assertEqual(formula_text(handed), text)
            self.assertEqual(handed, nested_list(formula))
        self.assertEqual(formula_text(formula=list(X)), "x")
        self.assertEqual(formula_in(text="x"), X)


class Refused(unittest.TestCase):
    def test_spots(self):
        for text, spot in BAD:
            with self.subTest(text):
                with self.assertRaises(BadText) as caught:
                    formula_in(text)
                self.assertEqual(caught.exception.spot, spot)
                self.assertIsInstance(caught.exception, ValueError)

    def test_the_oracle_by_the_same_texts(self):
        for text, spot in BAD:
            with self.subTest(text):
                self.assertEqual(Oracle(text).spot(), spot)
        for text, _ in TEXTS:
            with self.subTest(text):
                self.assertIsNone(Oracle(text).spot())

    def test_cut_off_at_any_sign(self):
        for text, _ in TEXTS:
            for end in range(len(text)):
                with self.subTest(text[:end]):
                    self.assertEqual(told_spot(text[:end]), Oracle(text[:end]).spot())
                    # What goes on to a formula's text wants just what follows.
                    self.assertIn(told_spot(text[:end]), (None, end))

    def test_signs_put_in_out_or_exchanged(self):
        for text, _ in TEXTS:
            if len(text) > 16:
                continue
            changed = {text[:at] + text[at + 1:] for at in range(len(text))}
            for sign in "x2064/-+ ()^.r\n":
                changed |= {text[:at] + sign + text[at:] for at in range(len(text) + 1)}
                changed |= {text[:at] + sign + text[at + 1:] for at in range(len(text))}
            for other in sorted(changed):
                with self.subTest(other):
                    spot = Oracle(other).spot()
                    self.assertEqual(told_spot(other), spot)
                    if spot is None:
                        self.assertEqual(formula_text(formula_in(other)), other)

    def test_all_short_texts(self):
        for many in range(5):
            for signs in product("x20/-^() +", repeat=many):
                text = "".join(signs)
                self.assertEqual(told_spot(text), Oracle(text).spot(), text)


class Deep(unittest.TestCase):
    def test_brackets_that_are_not_closed(self):
        for text in ("(" * 400, "root(" * 80, "(x + " * 80, "((x + y)^2 - " * 30):
            self.assertEqual(told_spot(text), len(text))
        self.assertEqual(told_spot("(" * 399 + ")"), 399)

    def test_texts_of_400_signs(self):
        for head, leaf, tail, many in (("root(", "x", ")", 66), ("(x + ", "x", ")", 66), ("(", "x^2", ")^1", 99)):
            text = head * many + leaf + tail * many
            formula = formula_in(text)
            self.assertIs(is_formula(formula), True)
            self.assertEqual(formula_text(formula), text)
            self.assertEqual(unknowns_of(formula), ["x"])
            self.assertIsNotNone(worth_of(formula, (("x", (1, 1)),)))


if __name__ == "__main__":
    unittest.main()
