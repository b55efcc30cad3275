import unittest

from drawing import THINGS, Drawer, form_from, has_list, nested_list
from squarepapers.brought import brought, lifted
from squarepapers.claims import claim_of, fails_at, is_claim, line_noughts, line_of, stretch_of, unknowns_in
from squarepapers.errors import BadDegree, BadUnknowns, Fails, NoParts, NoWorth
from squarepapers.forms import form_text, number_form, number_of, plus_of, power_of, times_of, unknown, weighed
from squarepapers.formulas import worth_of
from squarepapers.formulatexts import formula_in
from squarepapers.fractions import compared, lowest
from squarepapers.papers import shows
from squarepapers.places import is_place
from squarepapers.roots import parted, shows_parted

X = unknown("x")
ONE = number_form((1, 1))


def claim(goal, *conditions):
    """The claim whose goal and conditions have these texts, 0 for nought."""
    forms = [() if text == "0" else form_from(text) for text in (goal, *conditions)]
    return (tuple(forms[1:]), forms[0])


def at_x(top, bottom=1):
    return (("x", lowest(top, bottom)),)


def otherwise(thing):
    """The thing with one part in it otherwise, in all ways: a list for a tuple, a part out, True for a number."""
    if isinstance(thing, tuple):
        yield list(thing)
        for at, part in enumerate(thing):
            for other in otherwise(part):
                yield thing[:at] + (other,) + thing[at + 1:]
    else:
        yield from (None, True, "~", (), [thing])


class IsClaim(unittest.TestCase):
    def test_claims(self):
        for thing in (((), ()), ((), ONE), ((ONE,), ()), (((),), X), (((), ()), X), claim("1*x^2 + -1*y", "1*z", "-1*z")):
            self.assertIs(is_claim(thing), True)

    def test_thirty_and_more_conditions(self):
        for many, told in ((29, True), (30, True), (31, False), (40, False)):
            self.assertIs(is_claim(((X,) * many, X)), told)

    def test_one_thing_otherwise(self):
        whole = claim("1*x^2 + -1/2*y", "1*z", "3")
        self.assertIs(is_claim(whole), True)
        for thing in otherwise(whole):
            # A form may be the bare tuple, which is nought; powers too, of a number.
            if thing not in (((), whole[1]), (whole[0], ())) and () not in thing[0]:
                with self.subTest(thing):
                    self.assertIs(is_claim(thing), False)

    def test_wrong_parts(self):
        for thing in (
            (), ((),), ((), (), ()), ((), None), (None, ()), ([], ()), ((), []), [(), ()], ([X], X), ((X,), [X[0]]), (X, X),
            ((list(X),), X), ((X, None), X), ((X,), None), ((X,), X, X), ((ONE, True), X), ((), (((), (0, 1)),)), ((), (((), (2, 4)),)),
            ((), (((), (True, 1)),)), ((((("x", 25),), (1, 1)),), ()), (((((("x", 25),), (1, 1)),),), ()),
        ):
            with self.subTest(thing):
                self.assertIs(is_claim(thing), False)

    def test_things_of_any_kind_stay(self):
        for thing in THINGS:
            self.assertIs(is_claim(thing), False)
        thing = [[X], X]
        self.assertIs(is_claim(thing), False)
        self.assertEqual(thing, [[X], X])


class FailsAt(unittest.TestCase):
    def test_by_hand(self):
        for goal, conditions, place, told in (
            ("-1", (), (), True), ("1", (), (), False), ("0", (), (), False), ("-1", ("0",), (), True), ("-1", ("-1",), (), False),
            ("1*x", (), at_x(-1, 2), True), ("1*x", (), at_x(0), False), ("1*x", (), at_x(1, 2), False),
            ("1*x", ("1*x + 1",), at_x(-1, 2), True), ("1*x", ("1*x + 1",), at_x(-1), True), ("1*x", ("1*x + 1",), at_x(-2), False),
            ("1*x", ("1*x + 1", "1*x + 2"), at_x(-3, 2), False), ("1*x", ("1*x + 2", "1*x + 1"), at_x(-3, 2), False),
            ("1*x*y", ("1*x", "-1*y"), (("x", (2, 1)), ("y", (-3, 1))), True),
            ("1*x*y", ("1*x", "-1*y"), (("x", (2, 1)), ("y", (3, 1))), False),
            ("1*x*y", ("1*x", "-1*y"), (("x", (-2, 1)), ("y", (-3, 1))), False),
        ):
            with self.subTest(goal, conditions=conditions, place=place):
                self.assertIs(fails_at(claim(goal, *conditions), place), told)

    def test_more_unknowns(self):
        place = (("a", (7, 1)), ("x", (-1, 1)), ("z", (0, 1)))
        self.assertIs(fails_at(claim("1*x"), place), True)
        self.assertIs(fails_at(claim("1*x", "1*a"), place), True)
        self.assertIs(fails_at(claim("1*x", "-1*a"), place), False)

    def test_no_worth(self):
        whole = claim("1*b + 1*x", "1*c", "1*a*x")
        for names, lacking in (("", "a"), ("a", "b"), ("ab", "c"), ("abc", "x"), ("bcx", "a"), ("acx", "b"), ("abx", "c"), ("x", "a")):
            with self.assertRaises(NoWorth) as caught:
                fails_at(whole, tuple((name, (1, 1)) for name in names))
            self.assertEqual(caught.exception.name, lacking)
            self.assertIsInstance(caught.exception, KeyError)
        # Even where the goal, or a condition, would tell it alone.
        with self.assertRaises(NoWorth):
            fails_at(claim("1", "1*y"), ())
        with self.assertRaises(NoWorth):
            fails_at(claim("1*y", "-1"), ())

    def test_lists(self):
        handed = nested_list(claim("1*x", "1*x + 1"))
        place = nested_list(at_x(-1, 2))
        self.assertIs(fails_at(handed, place), True)
        self.assertIs(fails_at(claim=handed, place=place), True)
        self.assertEqual((handed, place), (nested_list(claim("1*x", "1*x + 1")), nested_list(at_x(-1, 2))))


class UnknownsIn(unittest.TestCase):
    def test_unknowns(self):
        self.assertEqual(unknowns_in(((), ())), [])
        self.assertEqual(unknowns_in(claim("1*x", "1")), ["x"])
        self.assertEqual(unknowns_in(claim("3", "1*y", "1*b*ab", "1*y")), ["ab", "b", "y"])
        self.assertEqual(unknowns_in(claim("1*z*y", "1*x")), ["x", "y", "z"])
        handed = nested_list(claim("1*z*y", "1*x"))
        told = unknowns_in(claim=handed)
        told.clear()
        self.assertEqual(unknowns_in(handed), ["x", "y", "z"])


class ClaimOf(unittest.TestCase):
    def told(self, text, *under):
        conditions, goal = claim_of(formula_in(text), under=tuple(map(formula_in, under)))
        return [form_text(form) for form in conditions], form_text(goal)

    def test_by_hand(self):
        self.assertEqual(self.told("x"), ([], "1*x"))
        self.assertEqual(self.told("(x - 1)"), ([], "-1 + 1*x"))
        self.assertEqual(self.told("(1 / x)"), ([], "1*x^3"))
        self.assertEqual(self.told("x", "(y - 1)", "z"), (["-1 + 1*y", "1*z"], "1*x"))
        self.assertEqual(self.told("x", "z", "(1 / y)", "z"), (["1*z", "1*y^3", "1*z"], "1*x"))
        self.assertEqual(self.told("(x / y)^0", "x"), (["1*x"], "1*y^2"))

    def test_new_unknowns_over_all(self):
        self.assertEqual(
            self.told("root(x)", "root(y)", "z"),
            (["1*qa", "1*qa^2 + -1*y", "-1*qa^2 + 1*y", "1*qb", "1*qb^2 + -1*x", "-1*qb^2 + 1*x", "1*qa", "1*z"], "1*qb"),
        )
        self.assertEqual(
            self.told("(root(y) - root(x))", "root(x)", "root(root(x))"),
            (
                ["1*qa", "1*qa^2 + -1*x", "-1*qa^2 + 1*x", "1*qb", "-1*qa + 1*qb^2", "1*qa + -1*qb^2", "1*qc", "1*qc^2 + -1*y",
                 "-1*qc^2 + 1*y", "1*qa", "1*qb"], "-1*qa + 1*qc",
            ),
        )

    def test_like_roots_once(self):
        conditions, goal = claim_of(formula_in("root(x)"), under=(formula_in("(1 - root(x))"), formula_in("root(x)")))
        self.assertEqual(conditions[3:], (form_from("1 + -1*qa"), unknown("qa")))
        self.assertEqual((len(conditions), goal), (5, unknown("qa")))

    def test_of_none_is_brought(self):
        for text in ("x", "root((x / y))", "(root(x) / (root(y) - root(x)))", "((x / (y - 1)) + root(2))^3", "1/2"):
            self.assertEqual(claim_of(formula_in(text)), brought(formula_in(text)))
            self.assertEqual(claim_of(formula_in(text), under=()), brought(formula_in(text)))

    def test_fails_just_where_the_formula_is_below(self):
        texts = (
            "x", "(y - 1)", "(x / y)", "root(x)", "(root(y) - root(x))", "((x / (y - 1)) - (1 / x))", "(x / y)^0", "root((x / y))",
            "(1 - root((y * y)))", "(root(root(x)) - 1/2)", "(x - y)^3", "-1", "(1 / (x - 1))^2", "root(2)", "(x / root(y))",
        )
        worths = [(0, 1), (1, 1), (-1, 1), (4, 1), (1, 4), (16, 1)]
        seen = {True: 0, False: 0}
        drawer = Drawer("claim of")
        for _ in range(400):
            formula, *under = [formula_in(drawer.chance.choice(texts)) for _ in range(drawer.number(1, 3))]
            place = tuple((name, drawer.chance.choice(worths)) for name in ("x", "y"))
            lifts = self.lifts(formula, under, place)
            if lifts is None:
                continue
            is_below = worth_of(formula, place)[0] < 0 and all(worth_of(one, place)[0] >= 0 for one in under)
            self.assertIs(fails_at(claim_of(formula, under=under), lifts), is_below)
            seen[is_below] += 1
        self.assertGreater(min(seen.values()), 20)

    def lifts(self, formula, under, place):
        """The place with all roots' fractions beside, None where one has no worth."""
        # A sum of all has the roots of all, in the same order.
        whole = formula
        for one in reversed(under):
            whole = ("plus", one, whole)
        return lifted(whole, place)

    def test_a_split_of_nought(self):
        # Over nought of an other one: its goal is nought there, so it isn't below.
        whole = claim_of(formula_in("x"), under=(formula_in("(1 / y)"),))
        self.assertIs(fails_at(whole, (("x", (-1, 1)), ("y", (0, 1)))), True)
        self.assertIs(fails_at(whole, (("x", (-1, 1)), ("y", (-1, 1)))), False)
        whole = claim_of(formula_in("(-1 / y)"))
        self.assertIs(fails_at(whole, (("y", (0, 1)),)), False)
        self.assertIs(fails_at(whole, (("y", (1, 1)),)), True)

    def test_lists(self):
        formula, under = formula_in("(root(x) / 2)"), (formula_in("root(y)"), formula_in("x^2"))
        handed = [nested_list(formula), nested_list(under)]
        told = claim_of(handed[0], under=handed[1])
        self.assertEqual(told, claim_of(formula, under=under))
        self.assertEqual(told, claim_of(formula=formula, under=list(under)))
        self.assertFalse(has_list(told))
        self.assertTrue(is_claim(told))
        root = formula_in("root(x)")
        self.assertEqual(claim_of(nested_list(root), under=(root,)), claim_of(root, under=(root,)))
        self.assertEqual(claim_of(root, under=[nested_list(root)]), claim_of(root, under=(root,)))
        self.assertEqual(handed, [nested_list(formula), nested_list(under)])
        with self.assertRaises(TypeError):
            claim_of(formula, under)


class StretchOf(unittest.TestCase):
    def check(self, told, *conditions):
        self.assertEqual(stretch_of(claim("1*x^3", *conditions)), told)
        self.assertEqual(stretch_of(claim("1*x^3", *conditions[::-1])), told)

    def test_ends(self):
        self.check((None, None))
        self.check(((-1, 2), None), "2*x + 1")
        self.check((None, (1, 2)), "-2*x + 1")
        self.check(((0, 1), None), "7*x")
        self.check((None, (0, 1)), "-1/7*x")
        self.check(((1, 1), (5, 3)), "1*x + -1", "-3*x + 5")
        self.check(((1, 1), (1, 1)), "1*x + -1", "-1*x + 1")
        self.check(((1, 1), (1, 1)), "2*x + -2", "-3*x + 3", "1*x", "5")
        self.check(None, "1*x + -1", "-1*x + 1/2")
        self.check(None, "1*x + -1", "-1*x + 999/1000")

    def test_alike_and_weaker_ones(self):
        self.check(((3, 1), None), "1*x", "1*x + -3", "1*x + -2")
        self.check(((3, 1), None), "1*x + -3", "2*x + -6", "1*x + -3")
        self.check((None, (-3, 1)), "-1*x", "-1*x + -3", "-1*x + -2")
        self.check(((1, 1), (2, 1)), "1*x + -1", "1*x + 5", "-1*x + 2", "-1*x + 3", "-2*x + 4")

    def test_numbers(self):
        self.check((None, None), "3")
        self.check((None, None), "0", "1/7")
        self.check(None, "-1/7")
        self.check(None, "-1/7", "1*x")
        self.check(((0, 1), None), "0", "1*x", "4")
        self.assertEqual(stretch_of(claim("-5", "1")), (None, None))
        self.assertEqual(stretch_of(claim("-5", "0")), (None, None))
        self.assertEqual(stretch_of(claim("5", "-1")), None)
        self.assertEqual(stretch_of(claim("0")), (None, None))
        self.assertEqual(stretch_of(claim("-5", "1*y + -1/2")), ((1, 2), None))

    def test_drawn(self):
        drawer = Drawer("stretches")
        bare = 0
        for _ in range(300):
            low, high = [drawer.fraction() for _ in range(2)]
            lows = [low] + [lowest(low[0] - drawer.number(0, 3) * low[1], low[1]) for _ in range(drawer.number(0, 2))]
            highs = [high] + [lowest(high[0] + drawer.number(0, 3) * high[1], high[1]) for _ in range(drawer.number(0, 2))]
            conditions = [weighed(plus_of(X, number_form((-top, bottom))), drawer.above()) for top, bottom in lows]
            conditions += [weighed(plus_of(weighed(X, (-1, 1)), number_form(end)), drawer.above()) for end in highs]
            drawer.chance.shuffle(conditions)
            told = stretch_of((tuple(conditions), ONE))
            self.assertEqual(told, None if compared(low, high) > 0 else (low, high))
            bare += told is None
        self.assertTrue(50 < bare < 250)

    def test_refused(self):
        for told in (stretch_of, line_of, line_noughts):
            for whole, names in (
                (claim("1*y", "1*x"), ("x", "y")), (claim("1*y*x"), ("x", "y")), (claim("1", "1*b", "1*a", "1*c^2"), ("a", "b", "c")),
                (claim("0", "1*x^2", "1*y", "-1"), ("x", "y")), (claim("0", "-1", "1*x + 1*y"), ("x", "y")),
            ):
                with self.assertRaises(BadUnknowns) as caught:
                    told(whole)
                self.assertEqual(caught.exception.names, names)
                self.assertIsInstance(caught.exception, ValueError)
            for whole, degree in (
                (claim("1", "1*x^2"), 2), (claim("-1", "1*x", "1*x^2", "1*x^5 + 1"), 5), (claim("1*x", "-1", "1*x^3"), 3),
                (claim("0", "1*x^3", "1*x^2"), 3),
            ):
                with self.assertRaises(BadDegree) as caught:
                    told(whole)
                self.assertEqual(caught.exception.degree, degree)
                self.assertIsInstance(caught.exception, ValueError)

    def test_lists(self):
        handed = nested_list(claim("1*x^3", "2*x + 1", "-1*x"))
        told = stretch_of(claim=handed)
        self.assertEqual(told, ((-1, 2), (0, 1)))
        self.assertFalse(has_list(told))
        self.assertEqual(handed, nested_list(claim("1*x^3", "2*x + 1", "-1*x")))


def lines():
    """Lines by hand: pairs of a claim and whether it holds."""
    yield from (
        (claim("0"), True), (claim("1/2"), True), (claim("-1/2"), False), (claim("-1", "1"), False), (claim("-1", "-1"), True),
        (claim("-1", "1*x"), False), (claim("-1", "1*x", "-1*x + -1"), True), (claim("0", "1*x", "-1*x + -1"), True),
        (claim("1*x"), False), (claim("-1*x"), False), (claim("1*x^2"), True), (claim("-1*x^2"), False), (claim("1*x^3"), False),
        (claim("1*x", "1*x"), True), (claim("1*x", "1*x + 1/1000"), False), (claim("1*x", "1*x + -1/1000"), True),
        (claim("-1*x", "-1*x"), True), (claim("-1*x^3", "-1*x"), True), (claim("-1*x^2", "-1*x", "1*x"), True),
        (claim("1*x^2 + -2"), False), (claim("1*x^2 + -2", "1*x + -3/2"), True), (claim("1*x^2 + -2", "1*x + -7/5"), False),
        (claim("-1*x^2 + 2", "1*x + 7/5", "-1*x + 7/5"), True), (claim("-1*x^2 + 2", "1*x + 7/5", "-1*x + 3/2"), False),
        (claim("1*x^2 + -2", "-1*x + -3/2"), True), (claim("1*x^2 + 1"), True), (claim("-1*x^2 + -1"), False),
        (claim("1*x^4 + -4*x^2 + 4"), True), (claim("-1*x^4 + 4*x^2 + -4"), False), (claim("1*x^4 + -4*x^2 + 4", "1*x"), True),
        (claim("1*x^2 + -3*x + 2", "1*x + -1", "-1*x + 1"), True), (claim("1*x^2 + -3*x + 2", "1*x + -1", "-1*x + 2"), False),
        (claim("-1*x^2 + 3*x + -2", "1*x + -1", "-1*x + 2"), True), (claim("-1*x^2 + 3*x + -2", "1*x + -3/2", "-1*x + 3/2"), True),
        (claim("1*x^2 + -3*x + 2", "1*x + -3/2", "-1*x + 3/2"), False), (claim("1*x^2 + -3*x + 2", "-1*x + 1"), True),
        (claim("1*x^2 + -3*x + 2", "1*x + -2"), True), (claim("1*x^3 + -2*x^2 + 1*x", "1*x"), True),
        (claim("1*x^3 + -2*x^2 + 1*x", "1*x + 1"), False), (claim("1*x^3 + -2*x^2 + 1*x", "1*x + -1"), True),
        (claim("1*x^3 + -2*x^2 + 1*x", "1*x", "-1*x + 1"), True),
    )


class LineOf(unittest.TestCase):
    def check(self, whole):
        """Whether the line is told to hold; what is told is right."""
        told = line_of(whole)
        self.assertIsInstance(told, tuple)
        self.assertEqual(len(told), 2)
        self.assertEqual(told, line_of(whole))
        self.assertFalse(has_list(told))
        if told[0] == "shown":
            self.assertIs(shows(whole, told[1]), True)
            self.check_word(whole, told[1][0])
            return True
        self.assertEqual(told[0], "fails")
        self.assertTrue(is_place(told[1]))
        self.assertEqual([name for name, worth in told[1]], unknowns_in(whole))
        self.assertIs(fails_at(whole, told[1]), True)
        return False

    def check_word(self, whole, word):
        stretch = stretch_of(whole)
        if stretch is None:
            self.assertEqual(word, "never")
        elif number_of(whole[1]) is None:
            self.assertEqual(word, "one" if stretch[0] is not None and stretch[0] == stretch[1] else "line")

    def test_by_hand(self):
        for whole, told in lines():
            with self.subTest(whole):
                self.assertIs(self.check(whole), told)

    def test_places_of_no_unknown(self):
        self.assertEqual(line_of(claim("-1")), ("fails", ()))
        self.assertEqual(line_of(claim("-1", "4", "0")), ("fails", ()))

    def test_drawn(self):
        drawer = Drawer("lines")
        told = {True: 0, False: 0}
        for _ in range(400):
            form = number_form(drawer.fraction())
            for _ in range(drawer.number(0, 3)):
                form = times_of(form, power_of(drawer.line(("y",)), drawer.number(1, 3)))
            if drawer.number(0, 2) == 0:
                form = times_of(form, plus_of(power_of(unknown("y"), 2), number_form(drawer.fraction())))
            whole = (tuple(drawer.line(("y",)) for _ in range(drawer.number(0, 3))), form)
            holds = self.check(whole)
            told[holds] += 1
            if holds:
                for top in range(-60, 61):
                    self.assertIs(fails_at(whole, (("y", lowest(top, 8)),)), False)
        self.assertGreater(min(told.values()), 100)

    def test_ends_at_roots_and_beside(self):
        # Below nought between 1 and 2, no fraction ends it: from -root(3) to root(3), too.
        form = times_of(form_from("1*x^2 + -3*x + 2"), form_from("1*x^2 + -3"))
        for low, high, told in (
            ((-2, 1), (-7, 4), True), ((-2, 1), (-17, 10), False), ((-17, 10), (1, 1), False), ((1, 1), (17, 10), True),
            ((1, 1), (7, 4), False), ((17, 10), (7, 4), False), ((7, 4), (19, 10), False), ((2, 1), (9, 1), True),
            ((19, 10), (2, 1), False), ((2, 1), (2, 1), True), ((1, 1), (1, 1), True), ((9, 10), (1, 1), False), ((9, 10), (9, 10), False),
            ((3, 2), (3, 2), True), ((1, 1), (2, 1), False), ((-2, 1), (3, 1), False),
        ):
            ends = (plus_of(X, number_form((-low[0], low[1]))), plus_of(weighed(X, (-1, 1)), number_form(high)))
            with self.subTest(low=low, high=high):
                self.assertIs(self.check((ends, form)), told)

    def test_roots_near_one_another(self):
        near = lowest(10 ** 30 + 1, 10 ** 30)
        form = times_of(form_from("1*x + -1"), plus_of(X, number_form((-near[0], near[1]))))
        self.assertIs(self.check(((), form)), False)
        self.assertIs(self.check(((plus_of(X, number_form((-near[0], near[1]))),), form)), True)
        self.assertIs(self.check(((form_from("1*x + -1"), form_from("-1*x + 2")), form)), False)
        self.assertIs(self.check(((form_from("-1*x + 1"),), form)), True)
        self.assertIs(self.check(((), power_of(form, 2))), True)
        self.assertIs(self.check(((), plus_of(power_of(form, 2), number_form((1, 10 ** 70))))), True)
        self.assertIs(self.check(((), plus_of(power_of(form, 2), number_form((-1, 10 ** 130))))), False)

    def test_degree_ten(self):
        form = ONE
        for many in range(5):
            form = times_of(form, plus_of(power_of(X, 2), number_form((-many - 2, 3))))
        self.assertIs(self.check(((), form)), False)
        self.assertIs(self.check(((form_from("1*x + -2"),), form)), True)
        self.assertIs(self.check(((form_from("1*x"),), form)), False)
        great = form_from("1*x^10 + 1")
        self.assertIs(self.check(((), great)), True)
        self.assertIs(self.check(((), weighed(great, (10 ** 60 + 7, 10 ** 59)))), True)

    def test_lists(self):
        for whole, told in lines():
            handed = nested_list(whole)
            self.assertEqual(line_of(claim=handed), line_of(whole))
            self.assertFalse(has_list(line_of(handed)))
            self.assertEqual(handed, nested_list(whole))


class LineNoughts(unittest.TestCase):
    def test_by_hand(self):
        zero, one, two = [((many, 1), (many, 1)) for many in range(3)]
        for goal, conditions, told in (
            ("5", (), []), ("1*x^2", (), [zero]), ("1*x", ("1*x",), [zero]), ("1*x", ("1*x + -1",), []), ("1*x^2", ("-1*x",), [zero]),
            ("1*x^2", ("-1*x + -1",), []), ("1*x^2 + -3*x + 2", ("1*x + -2",), [two]), ("1*x^2 + -3*x + 2", ("-1*x + 1",), [one]),
            ("-1*x^2 + 3*x + -2", ("1*x + -1", "-1*x + 2"), [one, two]), ("-1*x^2 + 3*x + -2", ("1*x + -3/2", "-1*x + 2"), [two]),
            ("-1*x^2 + 3*x + -2", ("1*x + -1", "-1*x + 3/2"), [one]), ("-1*x^2 + 3*x + -2", ("1*x + -3/2", "-1*x + 3/2"), []),
            ("1*x^3 + -2*x^2 + 1*x", ("1*x",), [zero, one]), ("1*x^3 + -2*x^2 + 1*x", ("1*x + -1/2",), [one]),
            ("-1*x^2 + 1*x", ("1*x + -1", "-1*x + 1"), [one]), ("-1*x^2 + -1", ("1*x", "-1*x + -1"), []), ("1*x", ("-1",), []),
            ("-1", ("1*x", "-1*x + -1"), []),
        ):
            with self.subTest(goal, conditions=conditions):
                self.assertEqual(line_noughts(claim(goal, *conditions)), told)

    def test_roots_that_are_no_fractions(self):
        # Twice root(2) and -root(2), once 3/2.
        form = times_of(power_of(form_from("1*x^2 + -2"), 2), form_from("1*x + -3/2"))
        upper = form_from("1*x + -3/2")
        self.assertEqual(line_noughts(((upper,), form)), [((3, 2), (3, 2))])
        lower = weighed(form, (-1, 1))
        for end, kept in (
            ((3, 2), (0, 1, 2)), ((71, 50), (0, 1)), ((141421357, 10 ** 8), (0, 1)), ((141421356, 10 ** 8), (0,)), ((1, 1), (0,)),
            ((-141421356, 10 ** 8), (0,)), ((-141421357, 10 ** 8), ()), ((-5, 1), ()),
        ):
            for width in ((1, 1000), (1, 1), (9, 1), (1, 10 ** 12)):
                with self.subTest(end, width=width):
                    whole = ((plus_of(weighed(X, (-1, 1)), number_form(lowest(*end))),), lower)
                    pairs = parted(lower, width=width)
                    self.assertEqual(line_noughts(whole, width=width), [pairs[at] for at in kept])

    def test_drawn(self):
        drawer = Drawer("line noughts")
        kept = 0
        for _ in range(150):
            form = number_form(drawer.above())
            for _ in range(drawer.number(1, 2)):
                form = times_of(form, power_of(plus_of(power_of(X, 2), drawer.line(("x",))), 2))
            whole = (tuple(drawer.line(("x",)) for _ in range(drawer.number(0, 2))), form)
            width = drawer.above()
            told = line_noughts(whole, width=width)
            self.assertIsInstance(told, list)
            if stretch_of(whole) is None:
                self.assertEqual(told, [])
                continue
            low, high = stretch_of(whole)
            pairs = parted(form, width=(1, 10 ** 9))
            within = [
                pair for pair in pairs if (low is None or compared(low, pair[1]) <= 0) and (high is None or compared(pair[0], high) <= 0)
            ]
            self.assertEqual(len(told), len(within))
            for one, other in zip(told, within):
                # Both are around the same root: they meet.
                self.assertTrue(compared(one[0], other[1]) <= 0 and compared(other[0], one[1]) <= 0)
            if (low, high) == (None, None):
                self.assertTrue(shows_parted(form, told, width=width))
            kept += len(told)
        self.assertGreater(kept, 50)

    def test_refused(self):
        for whole in (claim("1*x"), claim("-1", "1*x"), claim("-1"), claim("1*x^2 + -2", "1*x + -7/5")):
            with self.assertRaises(Fails) as caught:
                line_noughts(whole)
            place = caught.exception.place
            self.assertEqual([name for name, worth in place], unknowns_in(whole))
            self.assertIs(fails_at(whole, place), True)
            self.assertIsInstance(caught.exception, RuntimeError)
        for whole in (claim("0"), claim("0", "1*x"), claim("0", "-1"), claim("0", "1*x", "-1*x + -1"), claim("0", "1*x", "-1*x")):
            with self.assertRaises(NoParts) as caught:
                line_noughts(whole)
            self.assertIsInstance(caught.exception, ZeroDivisionError)

    def test_lists(self):
        whole = claim("1*x^4 + -4*x^2 + 4", "1*x + 5")
        handed = nested_list(whole)
        told = line_noughts(claim=handed, width=[1, 7])
        self.assertEqual(told, line_noughts(whole, width=(1, 7)))
        self.assertFalse(any(has_list(pair) for pair in told))
        self.assertEqual(handed, nested_list(whole))
        told.clear()
        self.assertEqual(len(line_noughts(whole)), 2)
        self.assertIsNot(line_noughts(claim("1")), line_noughts(claim("1")))
        with self.assertRaises(TypeError):
            line_noughts(whole, (1, 7))


if __name__ == "__main__":
    unittest.main()
