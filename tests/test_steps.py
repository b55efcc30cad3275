import unittest

from drawing import THINGS, Drawer, form_from, has_list, nested_list
from squarepapers.forms import form_text, number_form, plus_of, times_of, unknown, weighed
from squarepapers.places import put_in
from squarepapers.shapes import SHAPES, STEP_WORDS
from squarepapers.steps import is_step, told_by

X, Y = unknown("x"), unknown("y")
ONE = number_form((1, 1))
TWO = ("number", (2, 1))
BELOW = ("number", (-1, 1))
# Not below nought where x isn't: 2*x; where x and y aren't: x*y; without conditions: x^2.
KNOWN = (("both", ((X, Y), times_of(X, Y))), ("sq", ((), times_of(X, X))), ("twice", ((X,), weighed(X, (2, 1)))))
FIRST = (((), plus_of(times_of(X, X), ONE)), ((X, X), X), ((Y, X), times_of(X, Y)))


def told(step, given=(), known=(), first=()):
    form = told_by(step, given, known=known, first=first)
    return None if form is None else form_text(form)


class ToldBy(unittest.TestCase):
    def test_number(self):
        self.assertEqual(told(TWO), "2")
        self.assertEqual(told(("number", (1, 3))), "1/3")
        self.assertEqual(told_by(("number", (0, 1)), ()), ())
        self.assertIsNone(told(BELOW))
        self.assertIsNone(told(("number", (-1, 10 ** 60))))

    def test_square(self):
        self.assertEqual(told(("square", form_from("1*x + -1"))), "1 + -2*x + 1*x^2")
        self.assertEqual(told_by(("square", ()), ()), ())
        self.assertEqual(told(("square", number_form((-1, 2)))), "1/4")
        self.assertEqual(told(("square", form_from("1*x*y + 1*z"))), "2*x*y*z + 1*x^2*y^2 + 1*z^2")

    def test_given(self):
        given = (X, Y, ONE)
        self.assertEqual([told_by(("given", number), given) for number in range(5)], [X, Y, ONE, None, None])
        self.assertIsNone(told_by(("given", -1), given))
        self.assertIsNone(told_by(("given", 0), ()))
        self.assertEqual(told_by(("given", 0), ((),)), ())

    def test_sum_and_times(self):
        self.assertEqual(told(("sum", TWO, ("given", 0)), (X,)), "2 + 1*x")
        self.assertEqual(told(("times", TWO, ("given", 0)), (X,)), "2*x")
        self.assertEqual(told(("sum", ("given", 0), ("given", 0)), (X,)), "2*x")
        self.assertEqual(told(("times", ("given", 0), ("given", 1)), (X, form_from("1*x + -1*y"))), "-1*x*y + 1*x^2")
        self.assertEqual(told_by(("sum", ("given", 0), ("given", 1)), (X, weighed(X, (-1, 1)))), ())
        self.assertEqual(told_by(("times", ("number", (0, 1)), ("given", 0)), (X,)), ())
        for word in ("sum", "times"):
            for one, other in ((TWO, BELOW), (BELOW, TWO), (BELOW, BELOW), (("given", 1), TWO), (("number", (0, 1)), ("given", 1))):
                self.assertIsNone(told_by((word, one, other), (X,)))

    def test_put(self):
        pairs = (("x", form_from("1*y + -1")),)
        self.assertEqual(told(("put", pairs, ("square", X))), "1 + -2*y + 1*y^2")
        self.assertEqual(told(("put", (("x", Y), ("y", X)), ("square", form_from("1*x + -2*y")))), "-4*x*y + 4*x^2 + 1*y^2")
        self.assertEqual(told(("put", (), ("square", X))), "1*x^2")
        self.assertEqual(told(("put", (("z", Y),), ("square", X))), "1*x^2")
        self.assertEqual(told(("put", (("x", ()),), ("sum", TWO, ("square", X)))), "2")
        self.assertIsNone(told(("put", pairs, BELOW)))

    def test_put_has_nothing_given(self):
        pairs = (("x", Y),)
        self.assertIsNone(told_by(("put", pairs, ("given", 0)), (X,)))
        self.assertIsNone(told_by(("put", (), ("sum", TWO, ("times", TWO, ("given", 0)))), (X,)))
        self.assertIsNone(told_by(("put", pairs, ("put", pairs, ("given", 0))), (X,)))
        self.assertIsNone(told_by(("put", pairs, ("known", "twice", (("given", 0),))), (X,), known=KNOWN))
        self.assertIsNone(told_by(("put", pairs, ("use", 1, (("given", 0), ("given", 0)))), (X,), first=FIRST))
        # Beside a put, and behind it, all is given.
        self.assertEqual(told(("sum", ("put", pairs, ("square", X)), ("given", 0)), (X,)), "1*x + 1*y^2")
        self.assertEqual(told(("sum", ("given", 0), ("put", pairs, ("square", X))), (X,)), "1*x + 1*y^2")

    def test_put_has_known_and_shown_first(self):
        pairs = (("x", form_from("1*y + 1")),)
        self.assertEqual(told(("put", pairs, ("known", "sq", ())), known=KNOWN), "1 + 2*y + 1*y^2")
        self.assertEqual(told(("put", pairs, ("use", 0, ())), first=FIRST), "2 + 2*y + 1*y^2")
        known = KNOWN + (("up", ((ONE,), X)),)
        self.assertEqual(told(("put", pairs, ("known", "up", (("number", (1, 1)),))), known=known), "1 + 1*y")

    def test_known(self):
        self.assertEqual(told(("known", "sq", ()), known=KNOWN), "1*x^2")
        self.assertEqual(told(("known", "twice", (("given", 0),)), (X,), KNOWN), "2*x")
        self.assertEqual(told(("known", "both", (("given", 1), ("given", 0))), (Y, X), KNOWN), "1*x*y")
        twice = ("known", "twice", (("given", 0),))
        self.assertEqual(told(("sum", twice, ("known", "sq", ())), (X,), KNOWN), "2*x + 1*x^2")
        # A condition may be told by other steps than given ones.
        known = (("up", ((weighed(X, (2, 1)),), X)),) + KNOWN
        self.assertEqual(told(("known", "up", (twice,)), (X,), tuple(sorted(known))), "1*x")

    def test_known_that_tells_none(self):
        given = (X, Y)
        zero, one = ("given", 0), ("given", 1)
        for step in (
            ("known", "other", ()), ("known", "sq", (zero,)), ("known", "twice", ()), ("known", "twice", (zero, zero)),
            ("known", "twice", (one,)), ("known", "twice", (("sum", zero, zero),)), ("known", "both", (zero,)),
            ("known", "both", (one, zero)), ("known", "both", (zero, one, one)), ("known", "both", (zero, zero)),
            ("known", "twice", (BELOW,)), ("known", "twice", (("given", 2),)), ("known", "twice", (("known", "other", ()),)),
            ("known", "twice", (("known", "twice", (zero,)),)), ("known", "sqs", ()), ("known", "s", ()),
        ):
            with self.subTest(step):
                self.assertIsNone(told_by(step, given, known=KNOWN))
                self.assertIsNone(told_by(("sum", TWO, step), given, known=KNOWN))
                self.assertIsNone(told_by(("times", step, TWO), given, known=KNOWN))
        self.assertIsNone(told_by(("known", "sq", ()), given))
        self.assertIsNone(told_by(("known", "sq", ()), given, first=FIRST))

    def test_use(self):
        self.assertEqual(told(("use", 0, ()), first=FIRST), "1 + 1*x^2")
        self.assertEqual(told(("use", 1, (("given", 0), ("given", 0))), (X,), first=FIRST), "1*x")
        self.assertEqual(told(("use", 2, (("given", 1), ("given", 0))), (X, Y), first=FIRST), "1*x*y")
        inner = ("times", ("use", 0, ()), ("use", 1, (("given", 0), ("given", 0))))
        self.assertEqual(told(inner, (X,), first=FIRST), "1*x + 1*x^3")

    def test_use_that_tells_none(self):
        given = (X, Y)
        zero, one = ("given", 0), ("given", 1)
        for step in (
            ("use", 3, ()), ("use", 7, ()), ("use", -1, (one, zero)), ("use", 0, (zero,)), ("use", 1, ()), ("use", 1, (zero,)),
            ("use", 1, (zero, zero, zero)), ("use", 1, (zero, one)), ("use", 2, (zero, one)), ("use", 1, (zero, BELOW)),
        ):
            with self.subTest(step):
                self.assertIsNone(told_by(step, given, first=FIRST))
                self.assertIsNone(told_by(("sum", step, TWO), given, first=FIRST))
        self.assertIsNone(told_by(("use", 0, ()), given))
        self.assertIsNone(told_by(("use", 0, ()), given, known=KNOWN))

    def test_one_within_the_other(self):
        step = ("sum", ("times", ("sum", TWO, ("given", 0)), ("known", "sq", ())), ("put", (("x", Y),), ("use", 0, ())))
        self.assertEqual(told(step, (X,), KNOWN, FIRST), "1 + 2*x^2 + 1*x^3 + 1*y^2")

    def test_deep_and_long(self):
        step = ("number", (1, 1))
        for _ in range(199):
            step = ("sum", step, ("number", (1, 1)))
        self.assertEqual(told(step), "200")
        step = ("given", 0)
        for _ in range(199):
            step = ("known", "same", (step,))
        self.assertEqual(told_by(step, (X,), known=(("same", ((X,), X)),)), X)
        for _ in range(600):
            step = ("sum", ("number", (0, 1)), ("known", "same", (step,)))
        self.assertEqual(told_by(step, (X,), known=(("same", ((X,), X)),)), X)
        step = ("square", X)
        for _ in range(199):
            step = ("put", (("x", form_from("1*x + 1")),), step)
        self.assertEqual(told(step), "39601 + 398*x + 1*x^2")

    def test_drawn_ones_are_never_below(self):
        drawer = Drawer("steps")
        for _ in range(200):
            step, form = self.drawn(drawer, 4, (X, Y))
            self.assertTrue(is_step(step))
            self.assertEqual(told_by(step, (X, Y)), form)

    def drawn(self, drawer, deep, given):
        word = drawer.chance.choice(("number", "square", "given") if deep == 0 else ("sum", "times", "put", "given", "square"))
        if word == "number":
            fraction = drawer.above()
            return ("number", fraction), number_form(fraction)
        if word == "square":
            line = drawer.line(("x", "y"))
            return ("square", line), times_of(line, line)
        if word == "given":
            number = drawer.number(0, 2)
            return ("given", number), given[number] if number < len(given) else None
        one, form = self.drawn(drawer, deep - 1, () if word == "put" else given)
        if word == "put":
            pairs = (("x", drawer.line(("y",))), ("y", drawer.line(("x",))))
            return ("put", pairs, one), None if form is None else put_in(form, pairs)
        other, second = self.drawn(drawer, deep - 1, given)
        if form is None or second is None:
            return (word, one, other), None
        return (word, one, other), plus_of(form, second) if word == "sum" else times_of(form, second)

    def test_lists(self):
        step = ("sum", ("known", "both", (("given", 1), ("given", 0))), ("put", (("x", Y),), ("use", 0, ())))
        handed = [nested_list(part) for part in (step, (Y, X), KNOWN, FIRST)]
        form = told_by(handed[0], handed[1], known=handed[2], first=handed[3])
        self.assertEqual(form_text(form), "1 + 1*x*y + 1*y^2")
        self.assertFalse(has_list(form))
        self.assertEqual(handed, [nested_list(part) for part in (step, (Y, X), KNOWN, FIRST)])
        self.assertEqual(form, told_by(step=list(step), given=[Y, X], known=list(KNOWN), first=list(FIRST)))
        for step in (["given", 0], ["square", [[[["x", 1]], [1, 1]]]], ["number", [0, 1]]):
            self.assertFalse(has_list(told_by(step, [nested_list(X)])))
        self.assertIsNone(told_by(["number", [-1, 1]], []))
        with self.assertRaises(TypeError):
            told_by(TWO, (), KNOWN)


class IsStep(unittest.TestCase):
    STEPS = (
        TWO, ("number", (0, 1)), ("square", ()), ("square", X), ("given", 0), ("given", 99), ("sum", TWO, ("given", 0)),
        ("times", TWO, TWO), ("put", (), TWO), ("put", (("a", X), ("b", ())), ("given", 0)), ("known", "a", ()),
        ("known", "abcdefgh", (TWO,)), ("use", 0, ()), ("use", 5, (TWO, ("sum", TWO, TWO))),
    )

    def test_steps(self):
        for step in self.STEPS:
            with self.subTest(step):
                self.assertIs(is_step(step), True)
                self.assertIs(is_step(("sum", step, TWO)), True)
                self.assertIs(is_step(("use", 0, (TWO, step))), True)
                self.assertIs(is_step(("put", (), step)), True)

    def test_wrong_ones(self):
        for step in (
            BELOW, ("number", (2, 4)), ("number", 1), ("number",), ("number", (1, 1), (1, 1)), ("number", (True, 1)), ("number", None),
            ("square", (1, 1)), ("square",), ("square", X, X), ("square", None), ("square", X[0]), ("given", -1), ("given", True),
            ("given", False), ("given",), ("given", "0"), ("given", (0,)), ("given", None), ("given", 0, 0),
            ("sum", TWO), ("sum",), ("sum", TWO, TWO, TWO), ("sum", TWO, None),
            ("sum", BELOW, TWO), ("times", TWO, BELOW), ("times", TWO), ("times", (TWO, TWO)), ("put", TWO), ("put", (), BELOW),
            ("put", (("b", X), ("a", X)), TWO), ("put", (("a", X), ("a", X)), TWO), ("put", (("a", X, X),), TWO), ("put", ("a", X), TWO),
            ("put", (("A", X),), TWO), ("put", (("a", (1, 1)),), TWO), ("put", None, TWO), ("put", (("a", None),), TWO), ("known", "", ()),
            ("known", "A", ()), ("known", "abcdefghi", ()), ("known", 1, ()), ("known", "a"), ("known", "a", TWO), ("known", "a", (TWO, BELOW)),
            ("known", "a", None), ("known", "a", (), ()), ("use", -1, ()), ("use", True, ()), ("use", "a", ()), ("use", 0), ("use", 0, TWO),
            ("use", 0, (None,)), ("use", 0, (BELOW,)), ("step", TWO), ("never", TWO), ("one",),
            ("cases", X, ("one",), ("one",)), ("other", TWO), ("Number", (1, 1)), ((), TWO), (None,), (0,), ("",), ("number (1, 1)",),
        ):
            with self.subTest(step):
                self.assertIs(is_step(step), False)
                self.assertIs(is_step(("sum", TWO, step)), False)
                self.assertIs(is_step(("known", "a", (TWO, step))), False)
                self.assertIs(is_step(("put", (("a", X),), step)), False)

    def test_lists_for_tuples(self):
        for step in self.STEPS:
            self.assertIs(is_step(list(step)), False)
            for at, part in enumerate(step):
                if isinstance(part, tuple):
                    self.assertIs(is_step(step[:at] + (list(part),) + step[at + 1:]), False)
            self.assertIs(is_step(nested_list(step)), False)
        self.assertIs(is_step(("put", (["a", X],), TWO)), False)
        self.assertIs(is_step(("use", 0, (list(TWO),))), False)
        self.assertIs(is_step(("square", (list(X[0]),))), False)

    def test_things_of_any_kind_stay(self):
        for thing in THINGS:
            self.assertIs(is_step(thing), False)
            for word in STEP_WORDS:
                fits = {"square": thing == () and isinstance(thing, tuple), "given": is_index(thing), "number": thing == (0, 1)}
                self.assertIs(is_step((word, thing)), fits.get(word, False))
                if len(SHAPES[word]) == 2:
                    self.assertIs(is_step((word, thing, thing)), False)
        thing = ["sum", ["number", [1, 1]], ("given", 0)]
        self.assertIs(is_step(thing), False)
        self.assertEqual(thing, ["sum", ["number", [1, 1]], ("given", 0)])

    def test_deep(self):
        step = TWO
        for _ in range(1000):
            step = ("known", "a", (step,))
        self.assertIs(is_step(step), True)
        for _ in range(1000):
            step = ("times", TWO, step)
        self.assertIs(is_step(step), True)
        self.assertIs(is_step(("times", TWO, step + (TWO,))), False)


def is_index(thing):
    return isinstance(thing, int) and not isinstance(thing, bool) and thing >= 0


if __name__ == "__main__":
    unittest.main()
