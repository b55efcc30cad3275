import unittest

from squarepapers.errors import BadText
from squarepapers.forms import (
    degree_of, form_in, form_text, is_form, less_of, names_of, number_form, number_of, plus_of, power_of, times_of,
    unknown, weighed,
)

ONE = (((), (1, 1)),)
X = ((((("x", 1)),), (1, 1)),)
Y = ((((("y", 1)),), (1, 1)),)
# 3xy - x^2, as the document's text has it.
MIXED = (((("x", 1), ("y", 1)), (3, 1)), ((("x", 2),), (-1, 1)))

FORMS = (
    (),
    (((), (1, 2)),),
    X,
    MIXED,
    (((), (-7, 12)), ((("x", 1),), (1, 1)), ((("x", 24),), (10 ** 60, 7)), ((("y", 1),), (2, 3))),
    (((("abcdefgh", 1), ("b", 2), ("c", 3), ("d", 4)), (1, 3)),),
    (((("x", 1), ("y", 2)), (1, 1)), ((("x", 1), ("z", 1)), (1, 1)), ((("x", 2),), (1, 1))),
)

NO_FORMS = (
    # terms not rising, powers twice
    (((("x", 1),), (1, 1)), ((), (1, 1))),
    (((("x", 2),), (-1, 1)), ((("x", 1), ("y", 1)), (3, 1))),
    (((("y", 1),), (1, 1)), ((("x", 1),), (1, 1))),
    (((("x", 1),), (1, 1)), ((("x", 1),), (1, 1))),
    (((("x", 1),), (1, 1)), ((("x", 1),), (2, 1))),
    (((), (1, 1)), ((), (2, 1))),
    # fractions that are nought, or none
    (((), (0, 1)),),
    (((("x", 1),), (0, 1)),),
    (((), (2, 4)),),
    (((), (1, -2)),),
    (((), (1, 0)),),
    (((), (True, 1)),),
    (((), (1, True)),),
    (((), 1),),
    (((), None),),
    # NAMEs not rising, twice, or none
    (((("y", 1), ("x", 1)), (1, 1)),),
    (((("x", 1), ("x", 1)), (1, 1)),),
    (((("x", 1), ("x", 2)), (1, 1)),),
    (((("abcdefghi", 1),), (1, 1)),),
    (((("", 1),), (1, 1)),),
    (((("X", 1),), (1, 1)),),
    (((("x1", 1),), (1, 1)),),
    (((("x y", 1),), (1, 1)),),
    (((("x\n", 1),), (1, 1)),),
    (((("`", 1),), (1, 1)),),
    (((("{", 1),), (1, 1)),),
    ((((1, 1),), (1, 1)),),
    (((((), 1),), (1, 1)),),
    ((((None, 1),), (1, 1)),),
    # powers
    (((("x", 0),), (1, 1)),),
    (((("x", 25),), (1, 1)),),
    (((("x", -1),), (1, 1)),),
    (((("x", True),), (1, 1)),),
    (((("x", None),), (1, 1)),),
    (((("x", "1"),), (1, 1)),),
    (((("x", (1, 1)),), (1, 1)),),
    (((("x",),), (1, 1)),),
    (((("x", 1, 1),), (1, 1)),),
    ((("x", 1), (1, 1)),),
    (("x", (1, 1)),),
    ((("xy",), (1, 1)),),
    # lists where tuples are due
    [],
    [((), (1, 1))],
    ([(), (1, 1)],),
    (([], (1, 1)),),
    (((), [1, 1]),),
    (([("x", 1)], (1, 1)),),
    (((["x", 1],), (1, 1)),),
    # terms of other lengths
    ((),),
    (((),),),
    (((), (1, 1), ()),),
    ((), (1, 1)),
    # other things
    True, False, None, 0, 1, "", "x", "0", (0,), (True,), (None,), ("x",), ("ab", "cd"), tuple(range(4000)),
)

NO_TEXTS = (
    "", " ", "x", "-x", "1*x + 1", "1*y + 1*x", "1*x + 1*x", "1*x + 2*x", "1 + 2", "1*x^2 + 3*x*y", "-1*x^2 + 3*x*y",
    "1*y*x", "1*x*x", "1*x^1", "1*x^0", "1*x^25", "1*x^02", "1*x^-2", "1*x^", "1*x^ 2", "1*x^2^2", "1*x^a", "1*x^+2",
    "1*x^240", "1*x^\u0662", "0*x", "0 + 1*x", "1 + 0*x", "0/1", "-0", "00", "1 +  1*x", "1  + 1*x", "1+1*x", "1 +1*x",
    "1+ 1*x", " 1", "1 ", "1 + ", " + 1", "+ 1", "1 + 1*x\n", "\n1", "1* x", "1 *x", "1*", "*x", "1**x", "2/4*x",
    "1/1*x", "01*x", "+1*x", "1*x1", "1*X", "1*abcdefghi", "x*1", "1*x*1", "1*x*2", "1 - 1*x", "1 + -x", "1*x + x^2",
    "(1*x)", "1*x,1*y", "1*x 1*y", "1*x + 1*y + ", "1*x^2*x^3", "1*^2", "1*x + + 1*y",
)


def nested_list(thing):
    return [nested_list(part) for part in thing] if isinstance(thing, tuple) else thing


class IsForm(unittest.TestCase):
    def test_forms(self):
        for form in FORMS:
            with self.subTest(form):
                self.assertIs(is_form(form), True)

    def test_names_and_powers_at_the_edges(self):
        for name in ("a", "z", "az", "abcdefgh", "root"):
            for power in (1, 2, 23, 24):
                self.assertIs(is_form(((((name, power),), (1, 1)),)), True)

    def test_no_forms(self):
        for thing in NO_FORMS:
            with self.subTest(repr(thing)[:60]):
                self.assertIs(is_form(thing), False)

    def test_one_wrong_term_among_right_ones(self):
        for at in range(3):
            terms = [((), (1, 1)), ((("x", 1),), (1, 1)), ((("x", 2),), (1, 1))]
            terms[at] = (terms[at][0], (0, 1))
            self.assertIs(is_form(tuple(terms)), False)

    def test_deep_things(self):
        deep = ()
        for _ in range(29):
            deep = (deep,)
        for thing in (deep, (deep, (1, 1)), ((deep, (1, 1)),), ((((deep, 1),), (1, 1)),), (((), deep),)):
            self.assertIs(is_form(thing), False)

    def test_forms_as_lists_are_none(self):
        for form in FORMS:
            thing = nested_list(form)
            self.assertIs(is_form(thing), False)
            self.assertEqual(thing, nested_list(form))


class Made(unittest.TestCase):
    def test_number_form(self):
        self.assertEqual(number_form((0, 1)), ())
        self.assertEqual(number_form((1, 2)), (((), (1, 2)),))
        self.assertEqual(number_form(fraction=(-3, 1)), (((), (-3, 1)),))

    def test_unknown(self):
        self.assertEqual(unknown("x"), X)
        self.assertEqual(unknown(name="abcdefgh"), (((("abcdefgh", 1),), (1, 1)),))

    def test_plus_of(self):
        self.assertEqual(plus_of(X, Y), X + Y)
        self.assertEqual(plus_of(Y, X), X + Y)
        self.assertEqual(plus_of(X, X), (((("x", 1),), (2, 1)),))
        self.assertEqual(plus_of((), MIXED), MIXED)
        self.assertEqual(plus_of(MIXED, ()), MIXED)
        self.assertEqual(plus_of((), ()), ())
        self.assertEqual(plus_of(MIXED, X), X + MIXED)
        self.assertEqual(plus_of(MIXED, (((("x", 2),), (1, 1)),)), MIXED[:1])
        self.assertEqual(plus_of((((), (1, 2)),), (((), (1, 3)),)), (((), (5, 6)),))
        self.assertEqual(plus_of((((), (1, 2)),), (((), (-1, 2)),)), ())

    def test_less_of(self):
        self.assertEqual(less_of(X, Y), (((("x", 1),), (1, 1)), ((("y", 1),), (-1, 1))))
        self.assertEqual(less_of((), X), (((("x", 1),), (-1, 1)),))
        self.assertEqual(less_of(X, ()), X)
        self.assertEqual(less_of(ONE, X), (((), (1, 1)), ((("x", 1),), (-1, 1))))
        for form in FORMS:
            self.assertEqual(less_of(form, form), ())

    def test_times_of(self):
        self.assertEqual(times_of(X, Y), (((("x", 1), ("y", 1)), (1, 1)),))
        self.assertEqual(times_of(Y, X), (((("x", 1), ("y", 1)), (1, 1)),))
        self.assertEqual(times_of(X, X), (((("x", 2),), (1, 1)),))
        self.assertEqual(times_of(MIXED, ()), ())
        self.assertEqual(times_of((), MIXED), ())
        self.assertEqual(times_of(MIXED, ONE), MIXED)
        # (x + y)(x - y) = x^2 - y^2
        self.assertEqual(
            times_of(plus_of(X, Y), less_of(X, Y)), (((("x", 2),), (1, 1)), ((("y", 2),), (-1, 1)))
        )
        # (1/2 + x)(2/3 - y) = 1/3 + 2/3 x - xy - 1/2 y
        self.assertEqual(
            times_of((((), (1, 2)), ((("x", 1),), (1, 1))), (((), (2, 3)), ((("y", 1),), (-1, 1)))),
            (
                ((), (1, 3)), ((("x", 1),), (2, 3)), ((("x", 1), ("y", 1)), (-1, 1)), ((("y", 1),), (-1, 2)),
            ),
        )

    def test_weighed(self):
        self.assertEqual(weighed(MIXED, (0, 1)), ())
        self.assertEqual(weighed((), (3, 1)), ())
        self.assertEqual(weighed(MIXED, (1, 1)), MIXED)
        self.assertEqual(
            weighed(MIXED, (-2, 3)), (((("x", 1), ("y", 1)), (-2, 1)), ((("x", 2),), (2, 3)))
        )

    def test_power_of(self):
        one_more = plus_of(ONE, X)
        # Rows of Pascal's triangle.
        for many, row in enumerate(((1,), (1, 1), (1, 2, 1), (1, 3, 3, 1), (1, 4, 6, 4, 1), (1, 5, 10, 10, 5, 1))):
            told = tuple(((("x", k),) if k else (), (worth, 1)) for k, worth in enumerate(row))
            self.assertEqual(power_of(one_more, many), told)
        self.assertEqual([worth for _, (worth, _) in power_of(one_more, 6)], [1, 6, 15, 20, 15, 6, 1])
        for form in FORMS:
            self.assertEqual(power_of(form, 0), ONE)
        self.assertEqual(power_of((), 1), ())
        self.assertEqual(power_of((), 6), ())
        self.assertEqual(power_of((((), (-2, 3)),), 5), (((), (-32, 243)),))
        self.assertEqual(power_of(form=Y, many=6), (((("y", 6),), (1, 1)),))

    def test_power_is_the_repeated_product(self):
        form = plus_of(MIXED, (((), (1, 2)),))
        product = ONE
        for many in range(7):
            self.assertEqual(power_of(form, many), product)
            product = times_of(product, form)

    def test_all_told_are_forms(self):
        small = [form for form in FORMS if degree_of(form) < 12]
        for one in small:
            for other in small:
                for told in (plus_of(one, other), less_of(one, other), times_of(one, other)):
                    self.assertIs(is_form(told), True)


class Asked(unittest.TestCase):
    def test_names_of(self):
        self.assertEqual(names_of(()), [])
        self.assertEqual(names_of((((), (1, 2)),)), [])
        self.assertEqual(names_of(MIXED), ["x", "y"])
        self.assertEqual(names_of((((("b", 1), ("z", 1)), (1, 1)), ((("c", 1),), (1, 1)))), ["b", "c", "z"])

    def test_degree_of(self):
        self.assertEqual(degree_of(()), 0)
        self.assertEqual(degree_of((((), (5, 1)),)), 0)
        self.assertEqual(degree_of(X), 1)
        self.assertEqual(degree_of(MIXED), 2)
        self.assertEqual(degree_of((((("x", 2), ("y", 3)), (1, 1)), ((("x", 4),), (1, 1)))), 5)
        self.assertEqual(degree_of((((("x", 2), ("y", 3)), (1, 1)), ((("y", 24),), (1, 1)))), 24)

    def test_number_of(self):
        self.assertEqual(number_of(()), (0, 1))
        self.assertEqual(number_of((((), (-1, 2)),)), (-1, 2))
        for form in (X, MIXED, plus_of(ONE, X)):
            self.assertIsNone(number_of(form))


class Texts(unittest.TestCase):
    def test_each_way(self):
        for text, form in (
            ("0", ()),
            ("1/2", (((), (1, 2)),)),
            ("-3", (((), (-3, 1)),)),
            ("1*x", X),
            ("3*x*y + -1*x^2", MIXED),
            ("1 + 1*x + -7/12*x^24*y^2 + 2*y", (
                ((), (1, 1)), ((("x", 1),), (1, 1)), ((("x", 24), ("y", 2)), (-7, 12)), ((("y", 1),), (2, 1)),
            )),
            ("1*abcdefgh^10", (((("abcdefgh", 10),), (1, 1)),)),
            ("1*root", (((("root", 1),), (1, 1)),)),
        ):
            with self.subTest(text):
                self.assertEqual(form_text(form), text)
                self.assertEqual(form_in(text), form)

    def test_there_and_back(self):
        for form in FORMS + (times_of(MIXED, plus_of(MIXED, ONE)), power_of(plus_of(MIXED, ONE), 6)):
            self.assertEqual(form_in(form_text(form)), form)

    def test_whatever_its_size(self):
        form = weighed(MIXED, (-7 ** 6000, 2 ** 9000))
        self.assertTrue(is_form(form))
        self.assertEqual(form_in(form_text(form)), form)

    def test_each_power(self):
        for power in range(2, 25):
            self.assertEqual(form_in("1*x^" + str(power)), (((("x", power),), (1, 1)),))

    def test_texts_of_no_form(self):
        for text in NO_TEXTS:
            with self.subTest(text):
                with self.assertRaises(BadText) as caught:
                    form_in(text)
                self.assertEqual(caught.exception.spot, 0)


class Handing(unittest.TestCase):
    def test_lists_for_tuples(self):
        mixed = nested_list(MIXED)
        for told, due in (
            (number_form([1, 2]), number_form((1, 2))),
            (plus_of(mixed, nested_list(X)), plus_of(MIXED, X)),
            (plus_of(mixed, ()), MIXED),
            (plus_of([], mixed), MIXED),
            (less_of(mixed, nested_list(X)), less_of(MIXED, X)),
            (times_of(mixed, nested_list(MIXED)), times_of(MIXED, MIXED)),
            (times_of(mixed, ONE), MIXED),
            (weighed(mixed, [1, 1]), MIXED),
            (power_of(mixed, 1), MIXED),
            (power_of(mixed, 3), power_of(MIXED, 3)),
            (names_of(mixed), ["x", "y"]),
            (degree_of(mixed), 2),
            (number_of(nested_list((((), (-1, 2)),))), (-1, 2)),
            (number_of([]), (0, 1)),
            (number_of(mixed), None),
            (form_text(mixed), form_text(MIXED)),
        ):
            self.assertEqual(told, due)
        self.assertEqual(mixed, nested_list(MIXED))

    def test_told_lists_are_the_askers_own(self):
        told = names_of(MIXED)
        told.append("z")
        self.assertEqual(names_of(MIXED), ["x", "y"])
        self.assertIsNot(names_of(MIXED), names_of(MIXED))

    def test_a_later_change_changes_nothing_told(self):
        mixed = nested_list(MIXED)
        told = [plus_of(mixed, []), times_of(mixed, ONE), weighed(mixed, [1, 1]), power_of(mixed, 1)]
        mixed[0][0][0][0] = "z"
        mixed[1][1][0] = 5
        self.assertEqual(told, [MIXED] * 4)


if __name__ == "__main__":
    unittest.main()
