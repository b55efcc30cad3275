import unittest

from drawing import THINGS, Drawer, form_from, has_just_unknowns, has_list, nested_list
from squarepapers.errors import BadDegree
from squarepapers.forms import degree_of, is_form, less_of, names_of, number_form, plus_of, times_of, unknown, weighed
from squarepapers.fractions import is_fraction
from squarepapers.places import worth_at
from squarepapers.squares import shows_squares, squares_of

ONE = number_form((1, 1))
NAMES = ("a", "x", "y", "zz")


class SquaresCase(unittest.TestCase):
    def check(self, form):
        """Checks what is told of the form; the word."""
        told = squares_of(form)
        self.assertIsInstance(told, tuple)
        word, what = told
        if word == "fails":
            self.assertTrue(has_just_unknowns(what, form))
            self.assertLess(worth_at(form, what)[0], 0)
            return word
        self.assertEqual(word, "squares")
        self.assertIsInstance(what, list)
        self.assertLessEqual(len(what), len(names_of(form)) + 1)
        total = ()
        for weight, line in what:
            self.assertTrue(is_fraction(weight) and weight[0] > 0)
            self.assertTrue(is_form(line) and line != () and degree_of(line) <= 1)
            total = plus_of(total, weighed(times_of(line, line), weight))
        self.assertEqual(total, form)
        self.assertIs(shows_squares(form, what), True)
        return word

    def check_text(self, text):
        return self.check(form_from(text))


class SquaresOf(SquaresCase):
    def test_numbers(self):
        self.assertEqual(squares_of(()), ("squares", []))
        self.assertEqual(self.check_text("5/7"), "squares")
        self.assertEqual(len(squares_of(form_from("5/7"))[1]), 1)
        self.assertEqual(squares_of(form_from("-1/9")), ("fails", ()))

    def test_one_unknown(self):
        for text, word in (
            ("1*x^2", "squares"), ("1 + 2*x + 1*x^2", "squares"), ("1 + 1*x + 1*x^2", "squares"),
            ("1/4 + 1*x + 1*x^2", "squares"), ("1/5 + 1*x + 1*x^2", "fails"), ("-1 + 1*x^2", "fails"),
            ("1*x", "fails"), ("-3*x", "fails"), ("1000000 + -1/1000*x", "fails"), ("-1*x^2", "fails"),
            ("100 + -1*x^2", "fails"), ("-1*x^2 + 20*x", "fails"), ("-1/1000000*x^2 + 1000000", "fails"),
            ("3*x^2 + 2*x", "fails"), ("1*x^2 + -1/1000000", "fails"),
        ):
            with self.subTest(text):
                self.assertEqual(self.check_text(text), word)

    def test_several_unknowns(self):
        for text, word in (
            ("1*x*y", "fails"), ("1*x*y + 5", "fails"), ("-1*x*y + 1000", "fails"), ("1*x^2 + 1*x*y", "fails"),
            ("1*x^2 + 2*x*y + 1*y^2", "squares"), ("1*x^2 + 2*x*y + 99/100*y^2", "fails"),
            ("1*x^2 + 1*y^2 + 1*z^2 + -1*x*y + -1*y*z + -1*x*z", "squares"), ("1*x^2 + 1*y", "fails"),
            ("1*y^2 + 1*x", "fails"), ("1*x^2 + -1*y^2", "fails"), ("1*y^2 + -1*x^2", "fails"),
            ("1*x^2 + 1*y^2 + -1/1000", "fails"), ("1*a*b + 1*c*d", "fails"), ("1*a^2 + 1*b*c + 7", "fails"),
            ("1*x*y + 1*x + 1*y + 1", "fails"), ("1*x*y + -1*x", "fails"), ("1*x^2 + 2*x*y + 1*y^2 + 1*y", "fails"),
            ("1*x^2 + -2*x*y + 1*y^2 + 2*x + -2*y + 1", "squares"), ("1*x^2 + -2*x*y + 1*y^2 + 2*x + -2*y", "fails"),
            ("1*x*z + 1*y*z", "fails"), ("1*x*y + 1*x*z + 3*x", "fails"),
        ):
            with self.subTest(text):
                self.assertEqual(self.check_text(text), word)

    def test_great_numbers(self):
        great = number_form((10 ** 60, 10 ** 60 - 1))
        small = number_form((-1, 10 ** 60))
        line = plus_of(times_of(great, unknown("x")), plus_of(weighed(unknown("y"), (3, 10 ** 60)), great))
        square = times_of(line, line)
        self.assertEqual(self.check(square), "squares")
        self.assertEqual(self.check(plus_of(square, small)), "fails")
        self.assertEqual(self.check(plus_of(weighed(unknown("x"), (1, 10 ** 60)), number_form((10 ** 60, 1)))), "fails")

    def test_drawn_sums_of_squares(self):
        drawer = Drawer("sums of squares")
        for _ in range(150):
            names = NAMES[:drawer.number(1, 4)]
            form = drawer.squares(names, drawer.number(1, 6))
            self.assertEqual(self.check(form), "squares")
            self.assertEqual(self.check(plus_of(form, number_form(drawer.above()))), "squares")
            line = drawer.line(names)
            self.check(less_of(form, weighed(times_of(line, line), drawer.above())))
            self.check(less_of(form, number_form(drawer.above())))

    def test_a_square_of_a_few_less_a_number(self):
        # As many squares as unknowns have a place where all are nought.
        drawer = Drawer("less a number")
        for _ in range(100):
            names = NAMES[:drawer.number(1, 4)]
            form = plus_of(drawer.squares(names[:1], 1), number_form((-1, 9)))
            if names_of(form):
                self.assertEqual(self.check(form), "fails")

    def test_drawn(self):
        drawer = Drawer("drawn of degree 2")
        words = [self.check(drawer.form(NAMES[:drawer.number(1, 4)], 2, drawer.number(1, 6))) for _ in range(500)]
        self.assertLess(50, words.count("fails"))
        self.assertLess(10, words.count("squares"))

    def test_many_unknowns(self):
        text = " + ".join([f"1*{name}^2 + -1*{name}" for name in "abcdefghijklmnop"])
        self.assertEqual(self.check_text(text), "fails")
        self.assertEqual(self.check_text(text + " + 4"), "squares")
        self.assertEqual(len(squares_of(form_from(text + " + 5"))[1]), 17)

    def test_bad_degree(self):
        for text, degree in (("1*x^3", 3), ("1*x*y*z", 3), ("1 + 1*x^2*y^2", 4), ("1*x^24", 24), ("1*x^2*y + 1*x^2", 3)):
            with self.assertRaises(BadDegree) as caught:
                squares_of(form_from(text))
            self.assertEqual(caught.exception.degree, degree)
            self.assertIsInstance(caught.exception, ValueError)

    def test_lists(self):
        form = form_from("1*x^2 + 1*y^2 + 1*x + 1")
        handed = nested_list(form)
        told = squares_of(handed)
        self.assertEqual(told, squares_of(form))
        self.assertFalse(any(has_list(row) for row in told[1]))
        self.assertEqual(handed, nested_list(form))
        told[1].clear()
        self.assertEqual(len(squares_of(form=form)[1]), 3)
        self.assertFalse(has_list(squares_of(nested_list(form_from("1*x + 1*y^2")))))
        self.assertEqual(squares_of([]), ("squares", []))
        self.assertIsNot(squares_of(())[1], squares_of(())[1])


class ShowsSquares(unittest.TestCase):
    FORM = form_from("2*x^2 + 4*x*y + 2*y^2 + 3*y^2 + 1/2")
    ROWS = [((2, 1), form_from("1*x + 1*y")), ((3, 1), unknown("y")), ((1, 2), ONE)]

    def shows(self, *rows):
        return shows_squares(self.FORM, list(rows))

    def test_other_rows(self):
        one, two, three = self.ROWS
        self.assertIs(self.shows(one, two, three), True)
        self.assertIs(self.shows(three, one, two), True)
        self.assertIs(self.shows(one, ((1, 1), two[1]), three, ((2, 1), two[1])), True)
        self.assertIs(self.shows(one, ((3, 2), two[1]), ((3, 2), two[1]), three), True)
        self.assertIs(self.shows(one, two, three, ((7, 1), ())), True)
        self.assertIs(self.shows(one, two, ((1, 8), number_form((2, 1)))), True)
        self.assertIs(self.shows(one, ((3, 1), weighed(unknown("y"), (-1, 1))), three), True)
        self.assertIs(self.shows(*[((1, 5), one[1])] * 10, *[((1, 2), two[1])] * 6, three), True)

    def test_not_so(self):
        one, two, three = self.ROWS
        for rows in (
            (one, two), (two, three), (one, one, two, three), (one, two, three, three), (),
            (one, ((4, 1), two[1]), three), (one, ((3, 1), unknown("x")), three), (one, ((3, 1), ()), three),
            (one, ((-3, 1), two[1]), three), (one, two, three, ((0, 1), two[1])), (one, two, three, ((-1, 1), ())),
            (one, two, three, ((1, 1), two[1]), ((-1, 1), two[1])), (one, ((6, 2), two[1]), three),
            (one, two, ((2, 4), ONE)), (one, ((3, 1), "y"), three), (one, ((3, 1), None), three), (one, (3, two[1]), three),
            (one, ((True, 1), two[1]), two, three), (one, ((3, True), two[1]), three), (one, (two[1], (3, 1)), three),
            (one, (*two, ()), three), (one, two[:1], three), (one, (), three), (one, two, three, None), (one, two, three, ()),
            (one, list(two), three), (one, ([3, 1], two[1]), three), (one, ((3, 1), list(two[1])), three),
            (one, ((3, 1), ((("y", 1), (1, 1)),)), three), (one, ((3, 1), (((("y", 1),), (2, 2)),)), three),
            (one, ((3, 1), nested_list(two[1])), three), ([one, two, three],), (one, two, three, True),
        ):
            with self.subTest(rows):
                self.assertIs(self.shows(*rows), False)

    def test_tuples_where_the_list_is_due(self):
        self.assertIs(shows_squares(self.FORM, tuple(self.ROWS)), False)
        self.assertIs(shows_squares((), ()), False)
        self.assertIs(shows_squares((), []), True)

    def test_forms_of_any_degree(self):
        form = form_from("1*x^4*y^2 + 2*x^2*y*z^3 + 1*z^6 + 1*x^24")
        rows = [((1, 1), form_from("1*x^2*y + 1*z^3")), ((1, 1), form_from("1*x^12"))]
        self.assertIs(shows_squares(form, rows), True)
        self.assertIs(shows_squares(form, rows[:1]), False)
        self.assertIs(shows_squares(form_from("1*x^3"), []), False)
        self.assertIs(shows_squares(form_from("-1*x^2"), [((1, 1), unknown("x"))]), False)
        # forms of degree 2 as squares of forms of degree 1 and others that go out
        self.assertIs(shows_squares(unknown("x"), [((1, 1), unknown("x"))]), False)

    def test_things_of_any_kind(self):
        for thing in THINGS:
            self.assertIs(shows_squares(self.FORM, thing), False)
            self.assertIs(shows_squares((), thing), thing == [] and isinstance(thing, list))
        self.assertIs(shows_squares(self.FORM, ("squares", self.ROWS)), False)

    def test_what_is_asked_about_stays(self):
        rows = [list(self.ROWS[0]), self.ROWS[1], self.ROWS[2]]
        handed = nested_list(self.FORM)
        self.assertIs(shows_squares(handed, rows), False)
        self.assertEqual(rows, [list(self.ROWS[0]), self.ROWS[1], self.ROWS[2]])
        self.assertIs(shows_squares(handed, list(self.ROWS)), True)
        self.assertEqual(handed, nested_list(self.FORM))
        self.assertIs(shows_squares(form=handed, thing=list(self.ROWS)), True)


if __name__ == "__main__":
    unittest.main()
