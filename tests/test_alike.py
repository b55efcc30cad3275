import unittest

from drawing import THINGS, Drawer, form_from, has_just_unknowns, has_list, nested_list
from squarepapers.alike import noughts_of, shows_noughts
from squarepapers.errors import BadDegree, Fails
from squarepapers.forms import less_of, names_of, number_form, plus_of, times_of, weighed
from squarepapers.fractions import lowest
from squarepapers.places import moved, put_in, worth_at

NOUGHT = (0, 1)


def place(**worths):
    return tuple((name, worths[name]) for name in sorted(worths))


def rank(rows):
    """How many of the rows of fractions are made of no others."""
    left = [[lowest(*worth) for worth in row] for row in rows]
    found = 0
    while left and left[0]:
        filled = [row for row in left if row[0][0] != 0]
        empty = [row[1:] for row in left if row[0][0] == 0]
        if filled:
            found += 1
            first = filled[0]
            for row in filled[1:]:
                # row - row[0] / first[0] * first, without bottoms below nought
                share = lowest(row[0][0] * first[0][1], row[0][1] * first[0][0])
                empty.append([
                    lowest(a * d * share[1] - share[0] * c * b, b * d * share[1])
                    for (a, b), (c, d) in zip(row[1:], first[1:])
                ])
        left = empty
    return found


class NoughtsCase(unittest.TestCase):
    def check(self, form, lines=None):
        """Checks what is told; lines are forms of degree 1 that are nought just where form is."""
        told = noughts_of(form)
        self.assertIs(shows_noughts(form, told), True)
        if told is None:
            return None
        self.assertIsInstance(told, tuple)
        start, ways = told
        self.assertIsInstance(ways, list)
        self.assertTrue(has_just_unknowns(start, form))
        self.assertTrue(all(has_just_unknowns(way, form) for way in ways))
        self.assertEqual(rank([[step for name, step in way] for way in ways]), len(ways))
        at = start
        for many, way in enumerate(ways):
            at = moved(at, way, (3 * many - 4, 7))
        self.assertEqual(worth_at(form, start), NOUGHT)
        self.assertEqual(worth_at(form, at), NOUGHT)
        if lines is not None:
            names = names_of(form)
            slopes = [[dict((tuple(p), w) for p, w in line).get(((name, 1),), NOUGHT) for name in names] for line in lines]
            self.assertEqual(len(ways), len(names) - rank(slopes))
        return len(ways)


class NoughtsOf(NoughtsCase):
    def test_numbers(self):
        self.assertEqual(noughts_of(()), ((), []))
        self.assertIsNone(noughts_of(number_form((1, 7))))
        self.assertIs(shows_noughts((), ((), [])), True)

    def test_points(self):
        self.assertEqual(noughts_of(form_from("1*x^2")), (place(x=NOUGHT), []))
        self.assertEqual(noughts_of(form_from("1 + -4*x + 4*x^2")), (place(x=(1, 2)), []))
        self.assertEqual(noughts_of(form_from("2 + -2*x + 1*x^2 + 2*y + 1*y^2")), (place(x=(1, 1), y=(-1, 1)), []))
        self.assertEqual(noughts_of(form_from("1*x^2 + 1*x*y + 1*y^2")), (place(x=NOUGHT, y=NOUGHT), []))

    def test_lines_and_planes(self):
        self.assertEqual(self.check(form_from("1*x^2 + 2*x*y + 1*y^2")), 1)
        self.assertEqual(self.check(form_from("1*x^2 + -2*x*y + 1*y^2 + 2*x + -2*y + 1")), 1)
        self.assertEqual(self.check(form_from("1*x^2 + 2*x*y + 1*y^2 + 1*z^2")), 1)
        square = form_from("1*x + 2*y + -3*z + 1/2")
        self.assertEqual(self.check(times_of(square, square)), 2)
        square = form_from("1*a + 1*x + 2*y + -3*z + 1/2")
        self.assertEqual(self.check(times_of(square, square)), 3)

    def test_none(self):
        for text in ("1*x^2 + 1", "1*x^2 + 1*x + 1", "1*x^2 + 2*x*y + 1*y^2 + 1/1000", "1*x^2 + 1*y^2 + 2*y + 2"):
            self.assertIsNone(noughts_of(form_from(text)))
            self.assertIs(shows_noughts(form_from(text), None), True)

    def test_drawn(self):
        drawer = Drawer("noughts")
        names = ("a", "x", "y", "zz")
        for _ in range(200):
            some = names[:drawer.number(1, 4)]
            centre = drawer.place(some)
            lines, form = [], ()
            for _ in range(drawer.number(1, 4)):
                line = drawer.line(some)
                # each line is nought at the centre
                line = less_of(line, number_form(worth_at(line, centre)))
                lines.append(line)
                form = plus_of(form, weighed(times_of(line, line), drawer.above()))
            told = self.check(form, lines)
            self.assertIsNotNone(told)
            self.assertIsNone(noughts_of(plus_of(form, number_form(drawer.above()))))

    def test_fails(self):
        for text in ("-1", "1*x", "1*x^2 + -1", "1*x*y", "1*x^2 + 1*x", "1*x^2 + 1*y", "-1*x^2", "1*x^2 + 3*x*y + 1*y^2"):
            form = form_from(text)
            for ask in (noughts_of, lambda form: shows_noughts(form, None), lambda form: shows_noughts(form, ((), []))):
                with self.assertRaises(Fails) as caught:
                    ask(form)
                self.assertTrue(has_just_unknowns(caught.exception.place, form))
                self.assertLess(worth_at(form, caught.exception.place)[0], 0)
                self.assertIsInstance(caught.exception, RuntimeError)

    def test_bad_degree_ahead(self):
        for text, degree in (("1*x^3", 3), ("-1*x^4", 4), ("1*x^2*y^2", 4), ("-1 + -1*x*y*z", 3)):
            for ask in (noughts_of, lambda form: shows_noughts(form, None)):
                with self.assertRaises(BadDegree) as caught:
                    ask(form_from(text))
                self.assertEqual(caught.exception.degree, degree)
                self.assertIsInstance(caught.exception, ValueError)

    def test_lists(self):
        form = form_from("1*x^2 + 2*x*y + 1*y^2 + 1*z^2 + 1*x + 1*y + 1/4")
        handed = nested_list(form)
        told = noughts_of(handed)
        self.assertEqual(told, noughts_of(form))
        self.assertFalse(has_list(told[0]) or any(has_list(way) for way in told[1]))
        self.assertIs(shows_noughts(handed, told), True)
        self.assertEqual(handed, nested_list(form))
        told[1].clear()
        self.assertEqual(len(noughts_of(form=form)[1]), 1)
        self.assertIsNot(noughts_of(())[1], noughts_of(())[1])
        with self.assertRaises(Fails) as caught:
            noughts_of(nested_list(form_from("1*x*y + 1/2*x")))
        self.assertFalse(has_list(caught.exception.place))


class ShowsNoughts(unittest.TestCase):
    # Nought on the plane x + y + z = 1 of the unknowns x, y, z.
    LINE = form_from("1*x + 1*y + 1*z + -1")
    FORM = times_of(LINE, LINE)
    AT = place(x=(1, 1), y=NOUGHT, z=NOUGHT)
    ONE = place(x=(1, 1), y=(-1, 1), z=NOUGHT)
    OTHER = place(x=NOUGHT, y=(1, 1), z=(-1, 1))
    SUM = place(x=(1, 1), y=NOUGHT, z=(-1, 1))
    BY = place(x=(1, 1), y=NOUGHT, z=NOUGHT)
    STILL = place(x=NOUGHT, y=NOUGHT, z=NOUGHT)

    def shows(self, *thing):
        return shows_noughts(self.FORM, thing)

    def test_other_places_and_ways(self):
        for ways in ([self.ONE, self.OTHER], [self.OTHER, self.ONE], [self.ONE, self.SUM], [self.SUM, self.OTHER]):
            self.assertIs(self.shows(self.AT, ways), True)
        for at in (place(x=NOUGHT, y=NOUGHT, z=(1, 1)), place(x=(7, 3), y=(-1, 3), z=(-1, 1))):
            self.assertIs(self.shows(at, [self.ONE, self.OTHER]), True)
        twice = moved(self.STILL, self.ONE, (-2, 7))
        self.assertIs(self.shows(self.AT, [twice, self.OTHER]), True)

    def test_not_so(self):
        twice = moved(self.STILL, self.ONE, (-2, 7))
        both = [self.ONE, self.OTHER]
        for thing in (
            (self.AT, []), (self.AT, [self.ONE]), (self.AT, [self.ONE, self.OTHER, self.SUM]), (self.AT, [self.ONE, self.ONE]),
            (self.AT, [self.ONE, twice]), (self.AT, [twice, self.ONE]), (self.AT, [self.ONE, self.STILL]),
            (self.AT, [self.STILL, self.OTHER]), (self.AT, [self.STILL, self.STILL]), (self.AT, [self.ONE, self.BY]),
            (self.AT, [self.BY, self.OTHER]), (self.AT, both + [self.STILL]), (self.STILL, both), (self.ONE, both),
            (self.AT[:2], both), (self.AT + (("zz", NOUGHT),), both), ((), both), ((("a", NOUGHT),) + self.AT, both),
            (self.AT, [self.ONE[:2], self.OTHER]), (self.AT, [self.ONE, self.OTHER + (("zz", NOUGHT),)]),
            (self.AT, [self.ONE, ()]), (self.AT, [self.ONE, None]), (self.AT, [None, None]), (self.AT, None), (None, both),
            (self.AT, tuple(both)), (list(self.AT), both), (self.AT, [list(self.ONE), self.OTHER]),
            (self.AT, [self.ONE, nested_list(self.OTHER)]), (nested_list(self.AT), both), (self.AT, both, both), (self.AT,),
            (both, self.AT), ("AT", both), (self.AT[::-1], both), (self.AT, "ab"), (self.AT, [1, 2]), (self.AT, both[0]),
            (self.AT, [(("x", (2, 2)), ("y", (-1, 1)), ("z", NOUGHT)), self.OTHER]),
            ((("x", (True, 1)), ("y", NOUGHT), ("z", NOUGHT)), both),
        ):
            with self.subTest(thing):
                self.assertIs(self.shows(*thing), False)
        self.assertIs(shows_noughts(self.FORM, [self.AT, both]), False)
        self.assertIs(shows_noughts(self.FORM, None), False)

    def test_of_points_and_of_none(self):
        point = form_from("1*x^2")
        self.assertIs(shows_noughts(point, (place(x=NOUGHT), [])), True)
        self.assertIs(shows_noughts(point, (place(x=(1, 1)), [])), False)
        self.assertIs(shows_noughts(point, (place(x=NOUGHT), ())), False)
        self.assertIs(shows_noughts(point, (place(x=NOUGHT), [place(x=(1, 1))])), False)
        self.assertIs(shows_noughts(point, None), False)
        self.assertIs(shows_noughts(number_form((1, 1)), None), True)
        self.assertIs(shows_noughts(number_form((1, 1)), ((), [])), False)
        self.assertIs(shows_noughts(form_from("1*x^2 + 1"), (place(x=NOUGHT), [])), False)
        self.assertIs(shows_noughts((), None), False)
        self.assertIs(shows_noughts((), ((), [()])), False)
        self.assertIs(shows_noughts((), (place(x=NOUGHT), [])), False)

    def test_drawn_other_ways(self):
        drawer = Drawer("other ways")
        for _ in range(100):
            names = ("x", "y", "z")
            form = put_in(self.FORM, tuple((name, drawer.line(names)) for name in names))
            told = noughts_of(form) if form and names_of(form) else None
            if told is None or len(told[1]) < 2:
                continue
            at, (one, other, *more) = told
            at = moved(moved(at, one, drawer.fraction()), other, drawer.fraction())
            ways = [moved(one, other, drawer.fraction()), moved(other, other, (1, 2)), *more]
            self.assertIs(shows_noughts(form, (at, ways)), True)
            self.assertIs(shows_noughts(form, (at, ways[1:])), False)
            self.assertIs(shows_noughts(form, (at, ways[1:] + [moved(ways[1], ways[1], (3, 1))])), False)

    def test_things_of_any_kind(self):
        for thing in THINGS:
            self.assertIs(shows_noughts(self.FORM, thing), False)
            self.assertIs(shows_noughts(form_from("1*x^2 + 1"), thing), thing is None)
            self.assertIs(shows_noughts((), thing), False)

    def test_what_is_asked_about_stays(self):
        ways = [list(self.ONE), self.OTHER]
        self.assertIs(self.shows(self.AT, ways), False)
        self.assertEqual(ways, [list(self.ONE), self.OTHER])
        thing = (self.AT, [self.ONE, self.OTHER])
        self.assertIs(shows_noughts(form=nested_list(self.FORM), thing=thing), True)
        self.assertEqual(thing, (self.AT, [self.ONE, self.OTHER]))


if __name__ == "__main__":
    unittest.main()
