import unittest

from drawing import THINGS, Drawer, form_from, has_just_unknowns, has_list, nested_list
from squarepapers.errors import BadDegree
from squarepapers.floors import floor_of, shows_floor
from squarepapers.forms import is_form, less_of, number_form, plus_of, times_of, unknown, weighed
from squarepapers.fractions import compared
from squarepapers.places import moved, worth_at
from squarepapers.squares import squares_of

HALF = (1, 2)


def place(**worths):
    return tuple((name, worths[name]) for name in sorted(worths))


class FloorCase(unittest.TestCase):
    def check(self, form):
        """Checks what is told of the form by its promise; the word."""
        told = floor_of(form)
        self.assertIsInstance(told, tuple)
        self.assertEqual(len(told), 3)
        self.assertFalse(has_list(told))
        self.assertIs(shows_floor(form, told), True)
        if told[0] == "least":
            word, least, at = told
            self.assertTrue(has_just_unknowns(at, form))
            self.assertEqual(worth_at(form, at), least)
            self.assertEqual(squares_of(less_of(form, number_form(least)))[0], "squares")
            return word
        word, start, way = told
        self.assertEqual(word, "falls")
        self.assertTrue(has_just_unknowns(start, form) and has_just_unknowns(way, form))
        # Of degree 2 at most, three worths tell all: they fall for ever where the last fall is one, and no lesser one.
        worths = [worth_at(form, moved(start, way, (10 ** 200 + many, 1))) for many in range(3)]
        self.assertEqual((compared(worths[0], worths[1]), compared(worths[1], worths[2])), (1, 1))
        self.assertEqual(compared(worth_at(form, moved(start, way, (10 ** 300, 1))), (-10 ** 80, 1)), -1)
        return word


class FloorOf(FloorCase):
    def test_numbers(self):
        self.assertEqual(floor_of(()), ("least", (0, 1), ()))
        self.assertEqual(floor_of(number_form((-7, 12))), ("least", (-7, 12), ()))
        self.assertEqual(floor_of(number_form((5, 1))), ("least", (5, 1), ()))

    def test_least(self):
        for text, least, at in (
            ("1*x^2", (0, 1), place(x=(0, 1))), ("1*x^2 + 1*x", (-1, 4), place(x=(-1, 2))),
            ("3 + 2*x^2 + -4*x", (1, 1), place(x=(1, 1))), ("1*x^2 + 1*y^2 + 2*y + -5", (-6, 1), place(x=(0, 1), y=(-1, 1))),
            ("1*x^2 + 1*x*y + 1*y^2 + 1*x", (-1, 3), place(x=(-2, 3), y=(1, 3))),
        ):
            with self.subTest(text):
                self.assertEqual(floor_of(form_from(text)), ("least", least, at))
                self.check(form_from(text))

    def test_least_at_many_places(self):
        for text, least in (("1*x^2 + 2*x*y + 1*y^2", (0, 1)), ("1*x^2 + 2*x*y + 1*y^2 + 2*x + 2*y", (-1, 1))):
            told = floor_of(form_from(text))
            self.assertEqual(told[:2], ("least", least))
            self.check(form_from(text))

    def test_falls(self):
        for text in (
            "1*x", "-1/5*x", "1*x + 1*y", "-3*x*y", "1*x*y + 5", "-1*x^2", "-1*x^2 + 1*y^2", "1*x^2 + -1*y^2", "1*x^2 + 1*y",
            "1*x^2 + -1*y", "1*y^2 + 1*x", "1*a^2 + 1*b*c", "1*x^2 + 2*x*y + 1*y^2 + 1*y", "1*x*y + 1*x", "1*x*y + -1*x + 3",
            "1*x*z + 1*y*z", "-1*x*z + 1*y*z", "1*x^2 + 4*x*y + 1*y^2", "1*x*y + 7*y", "100 + -1*x + 1*y^2", "1*b*c + 2*b + 1*a^2",
        ):
            with self.subTest(text):
                self.assertEqual(self.check(form_from(text)), "falls")

    def test_drawn(self):
        drawer = Drawer("floors")
        names = ("a", "x", "y", "zz")
        words = []
        for _ in range(300):
            some = names[:drawer.number(1, 4)]
            words.append(self.check(drawer.form(some, 2, drawer.number(1, 7))))
            self.assertEqual(self.check(plus_of(drawer.squares(some, 3), number_form(drawer.fraction()))), "least")
            line = drawer.line(some)
            self.check(less_of(drawer.squares(some, 2), weighed(times_of(line, line), drawer.above())))
        self.assertLess(10, words.count("least"))
        self.assertLess(100, words.count("falls"))

    def test_great_numbers(self):
        form = plus_of(weighed(unknown("x"), (1, 10 ** 60)), number_form((10 ** 60, 1)))
        self.assertEqual(self.check(form), "falls")
        self.assertEqual(self.check(plus_of(form, times_of(form, form))), "least")

    def test_bad_degree(self):
        for text, degree in (("1*x^3", 3), ("1*x*y*z + 1*x", 3), ("1*x^2*y^2", 4)):
            for ask in (floor_of, lambda form: shows_floor(form, None)):
                with self.assertRaises(BadDegree) as caught:
                    ask(form_from(text))
                self.assertEqual(caught.exception.degree, degree)
                self.assertIsInstance(caught.exception, ValueError)

    def test_lists(self):
        for text in ("1*x^2 + 1*y^2 + 1*x", "1*x*y + 1/2*x", "1/2", "1*x^2 + 1*y"):
            form = form_from(text)
            handed = nested_list(form)
            told = floor_of(handed)
            self.assertEqual(told, floor_of(form=form))
            self.assertFalse(has_list(told))
            self.assertIs(shows_floor(handed, told), True)
            self.assertEqual(handed, nested_list(form))


class ShowsLeast(unittest.TestCase):
    # Least along the line x + y = 1, where it is -1.
    FORM = form_from("1*x^2 + 2*x*y + 1*y^2 + -2*x + -2*y")

    def shows(self, *thing):
        return shows_floor(self.FORM, thing)

    def test_other_places(self):
        for x, y in (((1, 1), (0, 1)), ((0, 1), (1, 1)), ((1, 2), (1, 2)), ((-7, 3), (10, 3))):
            self.assertIs(self.shows("least", (-1, 1), place(x=x, y=y)), True)

    def test_not_so(self):
        at = place(x=(1, 1), y=(0, 1))
        self.assertIs(self.shows("least", (-1, 1), at), True)
        for thing in (
            ("least", (-2, 1), at), ("least", (0, 1), at), ("least", (0, 1), place(x=(0, 1), y=(0, 1))),
            ("least", (-1, 1), place(x=(0, 1), y=(0, 1))), ("least", (-1, 1), place(x=(1, 1))), ("least", (-1, 1), ()),
            ("least", (-1, 1), place(x=(1, 1), y=(0, 1), z=(0, 1))), ("least", (-1, 1), place(a=(0, 1), x=(1, 1), y=(0, 1))),
            ("least", (-2, 2), at), ("least", -1, at), ("least", [-1, 1], at), ("least", (-1, True), at),
            ("least", (-1, 1), list(at)), ("least", (-1, 1), nested_list(at)), ("least", (-1, 1), at[::-1]),
            ("least", (-1, 1), (("x", (2, 2)), ("y", (0, 1)))), ("least", (-1, 1)), ("least", at), ("least", (-1, 1), at, at),
            ("falls", (-1, 1), at), ("falls", at, at), ("least", at, (-1, 1)), ("Least", (-1, 1), at), (None, (-1, 1), at),
            ("least", None, at), ("least", (-1, 1), None), ("falls", at, place(x=(1, 1), y=(-1, 1))), (["least"], (-1, 1), at),
            ("least", (-1, 1), (("x", (True, 1)), ("y", (0, 1)))),
        ):
            with self.subTest(thing):
                self.assertIs(self.shows(*thing), False)
        self.assertIs(shows_floor(self.FORM, ["least", (-1, 1), at]), False)

    def test_numbers(self):
        self.assertIs(shows_floor((), ("least", (0, 1), ())), True)
        self.assertIs(shows_floor((), ("least", (1, 1), ())), False)
        self.assertIs(shows_floor((), ("falls", (), ())), False)
        self.assertIs(shows_floor((), ("least", (0, 1), [])), False)
        self.assertIs(shows_floor(number_form(HALF), ("least", HALF, ())), True)
        self.assertIs(shows_floor(number_form(HALF), ("least", HALF, place(x=(0, 1)))), False)

    def test_things_of_any_kind(self):
        for form in ((), self.FORM, form_from("1*x"), form_from("1*x*y")):
            for thing in THINGS:
                self.assertIs(shows_floor(form, thing), False)

    def test_by_names(self):
        thing = ("least", (-1, 1), place(x=(1, 1), y=(0, 1)))
        self.assertIs(shows_floor(form=nested_list(self.FORM), thing=thing), True)


class ShowsFalls(unittest.TestCase):
    NOUGHT = place(x=(0, 1), y=(0, 1))

    def shows(self, text, start, way):
        form = form_from(text)
        self.assertTrue(is_form(form))
        return shows_floor(form, ("falls", start, way))

    def test_ways_of_a_product(self):
        for way, start, falls in (
            (place(x=(1, 1), y=(-1, 1)), self.NOUGHT, True), (place(x=(-2, 1), y=(1, 7)), self.NOUGHT, True),
            (place(x=(1, 1), y=(1, 1)), self.NOUGHT, False), (place(x=(1, 1), y=(0, 1)), self.NOUGHT, False),
            (self.NOUGHT, self.NOUGHT, False), (self.NOUGHT, place(x=(1, 1), y=(-9, 1)), False),
            (place(x=(1, 1), y=(0, 1)), place(x=(5, 1), y=(-1, 1)), True),
            (place(x=(-1, 1), y=(0, 1)), place(x=(5, 1), y=(-1, 1)), False),
            (place(x=(0, 1), y=(1, 3)), place(x=(-5, 1), y=(9, 1)), True),
            # at first they fall, then they rise
            (place(x=(1, 1), y=(1, 1)), place(x=(-9, 1), y=(-9, 1)), False),
            # at first they rise, then they fall
            (place(x=(1, 1), y=(-1, 1)), place(x=(-9, 1), y=(9, 1)), True),
        ):
            with self.subTest(way=way, start=start):
                self.assertIs(self.shows("1*x*y", start, way), falls)
                self.assertIs(self.shows("1*x*y + -1000", start, way), falls)

    def test_ways_of_degree_1_and_2_together(self):
        text = "1*x^2 + -1*y"
        self.assertIs(self.shows(text, self.NOUGHT, place(x=(0, 1), y=(1, 1))), True)
        self.assertIs(self.shows(text, place(x=(9, 1), y=(-9, 1)), place(x=(0, 1), y=(1, 100))), True)
        self.assertIs(self.shows(text, self.NOUGHT, place(x=(0, 1), y=(-1, 1))), False)
        self.assertIs(self.shows(text, self.NOUGHT, place(x=(1, 1000), y=(1000, 1))), False)

    def test_not_so(self):
        at, way = self.NOUGHT, place(x=(1, 1), y=(-1, 1))
        form = form_from("1*x*y")
        self.assertIs(shows_floor(form, ("falls", at, way)), True)
        for thing in (
            ("falls", at), ("falls", way), ("falls", at, way, way), ("least", at, way), ("least", (0, 1), at), ("falls", way, at),
            ("falls", list(at), way), ("falls", at, list(way)), ["falls", at, way], ("falls", nested_list(at), way),
            ("falls", at, nested_list(way)), ("falls", at[:1], way), ("falls", at, way[:1]), ("falls", (), way), ("falls", at, ()),
            ("falls", place(x=(0, 1), y=(0, 1), z=(0, 1)), way), ("falls", at, place(x=(1, 1), y=(-1, 1), z=(0, 1))),
            ("falls", at, (("x", (2, 2)), ("y", (-1, 1)))), ("falls", at, None), ("falls", None, way), ("falls", (0, 1), way),
            ("falls", at, way[::-1]), ("falls", at, (("x", (1, 1)), ("y", (-1, True)))), ("", at, way), (None, at, way),
        ):
            with self.subTest(thing):
                self.assertIs(shows_floor(form, thing), False)

    def test_an_unknown_of_the_same_name_as_one_within(self):
        form = form_from("1*many + 1*x^2")
        self.assertIs(shows_floor(form, ("falls", place(many=(3, 1), x=(0, 1)), place(many=(-1, 1), x=(0, 1)))), True)
        self.assertIs(shows_floor(form, ("falls", place(many=(3, 1), x=(0, 1)), place(many=(1, 1), x=(0, 1)))), False)


if __name__ == "__main__":
    unittest.main()
