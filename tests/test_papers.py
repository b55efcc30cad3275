import unittest

from drawing import THINGS, Drawer, form_from, has_list, nested_list
from squarepapers.claims import fails_at
from squarepapers.forms import less_of, number_form, plus_of, power_of, times_of, unknown, weighed
from squarepapers.fractions import lowest
from squarepapers.papers import is_paper, leans_on, shows

X, Y, Z = unknown("x"), unknown("y"), unknown("z")
ONE = number_form((1, 1))
TWO = ("number", (2, 1))
LINE = ("line", ONE, ONE, (), (0, 1))
A, B = ("given", 0), ("given", 1)


def minus(form):
    return weighed(form, (-1, 1))


def square_of(form):
    return times_of(form, form)


def claim(goal, *conditions):
    return (conditions, goal)


# Goals and conditions, with papers that show them.
STEP = (claim(square_of(less_of(X, Y))), ("step", ("square", less_of(X, Y))))
GIVEN = (claim(plus_of(X, weighed(Y, (2, 1))), X, Y), ("step", ("sum", A, ("times", TWO, B))))
# x, where x and y * y times x are together not below nought.
PART = (claim(X, plus_of(X, times_of(X, square_of(Y)))), ("part", (1, 1), ("square", Y), A))
NEVER = (claim(minus(ONE), X, less_of(minus(X), ONE)), ("never", ("sum", A, B)))
CASES = (
    claim(plus_of(square_of(X), Y), Y),
    ("cases", X, ("step", ("sum", A, ("times", B, B))), ("step", ("sum", A, ("times", B, B)))),
)
ORDER = (claim(square_of(less_of(X, Y))), ("order", ("x", "y"), ("step", ("times", A, A))))
THREE_GOAL = plus_of(plus_of(square_of(less_of(X, Y)), square_of(less_of(Y, Z))), square_of(less_of(Z, X)))
# With steps a and b between them it's 2 * a * a + 2 * b * b + 2 * a * b.
ORDER_OF_THREE = (
    claim(THREE_GOAL),
    ("order", ("x", "y", "z"), ("step", ("times", TWO, ("sum", ("times", A, A), ("sum", ("times", B, B), ("times", A, B)))))),
)
# First that 2 * x isn't below nought where x isn't, then 4 * x.
DOUBLED = claim(weighed(X, (2, 1)), X)
FIRST = (
    claim(weighed(X, (4, 1)), X),
    ("first", DOUBLED, ("step", ("times", TWO, A)), ("step", ("times", TWO, ("use", 0, (A,))))),
)
WITHIN = (
    claim(plus_of(square_of(X), Y), Y),
    (
        "first", claim(square_of(X)), ("cases", X, ("step", ("times", A, A)), ("step", ("times", A, A))),
        ("cases", Y, ("step", ("sum", B, ("use", 0, ()))), ("step", ("sum", A, ("use", 0, ())))),
    ),
)
LINES = (
    (claim(X, X), ("line", ONE, X, (), (1, 1))),
    (claim(square_of(X)), ("line", X, ONE, (), (0, 1))),
    (claim(()), ("line", (), ONE, (), (0, 1))),
    (claim(square_of(less_of(X, ONE)), less_of(X, ONE), less_of(ONE, X)), ("one",)),
)
EXAMPLES = (STEP, GIVEN, PART, NEVER, CASES, ORDER, ORDER_OF_THREE, FIRST, WITHIN) + LINES


class Words(unittest.TestCase):
    def shown(self, example, told=True):
        self.assertIs(shows(*example), told)

    def test_examples(self):
        for example in EXAMPLES:
            with self.subTest(example[1][0]):
                self.assertIs(is_paper(example[1]), True)
                self.shown(example)

    def test_of_goals_near(self):
        for whole, paper in EXAMPLES:
            conditions, goal = whole
            if paper[0] == "never":
                continue
            for other in (
                plus_of(goal, number_form((1, 100))), less_of(goal, ONE), weighed(goal, (2, 1)), minus(goal), plus_of(goal, X),
                times_of(goal, plus_of(X, Y)), plus_of(goal, unknown("a")), weighed(goal, (-1, 3)),
            ):
                # An even power of one unknown may be another line's, or of just one fraction: that's no number less.
                if other != goal and paper[0] != "one":
                    with self.subTest(paper[0], other=other):
                        self.shown(((conditions, other), paper), False)

    def test_of_conditions_near(self):
        for whole, paper in (GIVEN, PART, NEVER, CASES, FIRST):
            conditions, goal = whole
            for at, condition in enumerate(conditions):
                with self.subTest(paper[0], at=at):
                    self.shown(((conditions[:at] + conditions[at + 1:], goal), paper), False)
                    self.shown(((conditions[:at] + (plus_of(condition, ONE),) + conditions[at + 1:], goal), paper), False)
                    self.shown(((conditions[:at] + (weighed(condition, (3, 1)),) + conditions[at + 1:], goal), paper), False)
            self.shown((((Z,) + conditions, goal), paper), False)
        for whole, paper in (GIVEN, PART, NEVER, FIRST):
            # More of them behind do no harm here.
            self.shown(((whole[0] + (Z, minus(Z)), whole[1]), paper))
        self.shown((((Y, X), GIVEN[0][1]), GIVEN[1]), False)
        self.shown(((NEVER[0][0][::-1], NEVER[0][1]), NEVER[1]))
        # More conditions put the case's own condition at another number.
        self.shown((((Y, Z), CASES[0][1]), CASES[1]), False)
        self.shown((((Y, Y), CASES[0][1]), CASES[1]), False)

    def test_step(self):
        self.shown((claim(()), ("step", ("number", (0, 1)))))
        self.shown((claim(ONE), ("step", ("number", (1, 1)))))
        self.shown((claim(X, X), ("step", A)))
        self.shown((claim(X), ("step", A)), False)
        self.shown((claim(X, Y), ("step", A)), False)
        self.shown((claim(minus(ONE)), ("step", ("number", (-1, 1)))), False)
        self.shown((claim(X, X), ("step", ("put", (), A))), False)

    def test_part(self):
        whole, paper = PART
        for other in (
            ("part", (2, 1), ("square", Y), A), ("part", (1, 2), ("square", Y), A), ("part", (1, 1), ("square", X), A),
            ("part", (1, 1), ("given", 0), A), ("part", (1, 1), ("square", Y), ("sum", A, A)), ("part", (1, 1), ("number", (1, 1)), A),
            ("part", (1, 1), ("given", 1), A), ("part", (1, 1), ("square", Y), ("given", 1)), ("part", (1, 1), A, ("square", Y)),
        ):
            with self.subTest(other):
                self.assertIs(is_paper(other), True)
                self.shown((whole, other), False)
        for fraction in ((0, 1), (-1, 1)):
            # A fraction above nought, even where the step tells just that.
            told = plus_of(times_of(X, square_of(Y)), weighed(X, fraction))
            self.shown((claim(X, told), ("part", fraction, ("square", Y), A)), False)
            self.assertIs(is_paper(("part", fraction, ("square", Y), A)), False)
        self.shown((claim(X, weighed(X, (1, 7))), ("part", (1, 7), ("number", (0, 1)), A)))
        self.shown((claim(X, weighed(X, (3, 1))), ("part", (1, 1), TWO, A)))
        # Of a goal with more than a factor: the front is given, too.
        front = times_of(X, plus_of(number_form((1, 2)), Y))
        self.shown((claim(X, front, Y), ("part", (1, 2), ("given", 1), A)))

    def test_never(self):
        for goal in ((), ONE, minus(ONE), minus(square_of(X)), Z):
            self.shown((claim(goal, *NEVER[0][0]), NEVER[1]))
            self.shown((claim(goal, minus(ONE)), ("never", A)))
            self.shown((claim(goal, number_form((-1, 10 ** 9))), ("never", A)))
            for number in ((), ONE, number_form((1, 10 ** 9)), X, minus(X), less_of(X, ONE), minus(square_of(X))):
                self.shown((claim(goal, number), ("never", A)), False)
            self.shown((claim(goal), ("never", ("number", (-1, 1)))), False)
            self.shown((claim(goal, minus(ONE)), ("never", ("given", 1))), False)
            self.shown((claim(goal, minus(ONE)), ("never", ("put", (), A))), False)

    def test_cases(self):
        whole, paper = CASES
        one = paper[2]
        bad = ("step", ("sum", A, A))
        for other in (
            ("cases", X, one, bad), ("cases", X, bad, one), ("cases", Y, one, one), ("cases", plus_of(X, ONE), one, one),
            ("cases", (), one, one), one,
        ):
            self.shown((whole, other), False)
        self.shown((whole, ("cases", minus(X), one, one)))
        # In the one case the form itself is given, last; in the other one it times -1.
        case = ("cases", X, ("step", ("sum", B, A)), ("step", ("times", TWO, B)))
        self.shown((claim(plus_of(X, Y), Y), case), False)
        self.shown((claim(plus_of(X, Y), Y, weighed(plus_of(X, Y), (2, 1))), ("cases", X, ("step", ("sum", A, ("given", 2))), ("part", (1, 1), ("number", (1, 1)), B))))
        self.shown((claim(X, minus(X)), ("cases", X, ("step", B), ("step", B))), False)
        self.shown((claim(minus(X), Y), ("cases", X, ("step", B), ("step", B))), False)
        self.shown((claim(minus(X), minus(X)), ("cases", X, ("step", A), ("step", B))))
        # Cases within cases: both forms are behind.
        inner = ("cases", Y, ("step", ("times", B, B)), ("step", ("times", B, B)))
        self.shown((claim(square_of(Y)), ("cases", X, inner, inner)))
        inner = ("cases", Y, ("step", ("times", A, A)), ("step", ("times", A, A)))
        self.shown((claim(square_of(X)), ("cases", X, inner, inner)))
        self.shown((claim(square_of(Y)), ("cases", X, inner, inner)), False)

    def test_order_adds_steps_behind(self):
        # The second one less the first, of each two neighbours, behind the claim's own conditions.
        symmetric = (claim(plus_of(X, Y), X, Y), ("order", ("x", "y"), ("step", ("sum", A, B))))
        self.shown(symmetric)
        self.shown((claim(plus_of(X, Y), X, Y), ("order", ("x", "y"), ("step", ("sum", ("sum", A, A), ("given", 2))))))
        self.shown((claim(plus_of(X, Y), X, Y), ("order", ("y", "x"), ("step", ("sum", ("sum", B, B), ("given", 2))))))
        self.shown((claim(plus_of(X, Y), X, Y), ("order", ("y", "x"), ("step", ("sum", ("sum", A, A), ("given", 2))))), False)
        self.shown((claim(plus_of(X, Y), X, Y), ("order", ("x", "y"), ("step", ("sum", ("sum", B, B), ("given", 2))))), False)
        self.shown((claim(plus_of(X, Y), X, Y), ("order", ("x", "y"), ("step", ("sum", A, ("given", 3))))), False)
        # One step for each two neighbours, no more.
        goal, paper = ORDER_OF_THREE
        self.shown((goal, ("order", ("x", "y", "z"), ("step", ("given", 2)))), False)
        outer = less_of(Z, X)
        self.shown((claim(THREE_GOAL, outer), paper), False)
        self.shown((goal, ("order", ("z", "y", "x"), paper[2])))
        self.shown((goal, ("order", ("y", "x", "z"), paper[2])))
        self.shown((goal, ("order", ("x", "y"), paper[2])), False)

    def test_order_of_what_is_the_same(self):
        step = ("step", ("number", (0, 1)))
        led_round = plus_of(plus_of(times_of(X, square_of(Y)), times_of(Y, square_of(Z))), times_of(Z, square_of(X)))
        all_names = ("x", "y", "z")
        good = (THREE_GOAL, times_of(times_of(X, Y), Z), plus_of(plus_of(X, Y), Z), ())
        for goal in good:
            paper = ("order", all_names, ("step", ("given", 0)))
            self.shown((claim(goal, goal), paper))
        for goal in (led_round, X, less_of(X, Y), plus_of(X, Z), plus_of(X, Y), times_of(X, Y), square_of(less_of(X, Y))):
            self.shown((claim(goal, goal), ("order", all_names, ("step", ("given", 0)))), False)
            # The conditions not the same.
            self.shown((claim((), goal), ("order", all_names, step)), False)
            self.shown((claim((), goal, ONE), ("order", all_names, step)), False)
        # Just two of three.
        for goal in (plus_of(X, Y), square_of(less_of(X, Y)), times_of(Z, times_of(X, Y)), Z):
            self.shown((claim(goal, goal), ("order", ("x", "y"), ("step", ("given", 0)))))
            self.shown((claim((), goal), ("order", ("y", "x"), step)))
        # Led round: the conditions too.
        conditions = (times_of(X, square_of(Y)), times_of(Y, square_of(Z)), times_of(Z, square_of(X)))
        self.shown((((conditions), ()), ("order", all_names, step)), False)

    def test_order_of_conditions_in_another_order_and_more_often(self):
        step = ("step", ("number", (0, 1)))
        for conditions, told in (
            ((X, Y), True), ((Y, X), True), ((X, Y, X), True), ((X, X, X, Y), True), ((X,), False), ((X, X), False), ((), True),
            ((X, Z, Y), True), ((X, weighed(Y, (2, 1))), False), ((X, weighed(Y, (2, 1)), Y), False),
            ((weighed(X, (2, 1)), X, weighed(Y, (2, 1)), Y), True), ((less_of(X, Y),), False), ((less_of(X, Y), less_of(Y, X)), True),
            ((plus_of(X, times_of(Z, Y)), plus_of(times_of(X, Z), Y)), True), ((ONE, ONE), True), ((X, minus(Y)), False),
        ):
            with self.subTest(conditions):
                self.shown(((conditions, ()), ("order", ("x", "y"), step)), told)
        # Two neighbours not so, first or last.
        self.shown((((X, Y), ()), ("order", ("x", "y", "z"), step)), False)
        self.shown((((X, Y), ()), ("order", ("z", "x", "y"), step)), False)
        self.shown((((X, Y), ()), ("order", ("x", "z", "y"), step)), False)
        self.shown((((X, Y, Z), ()), ("order", ("x", "z", "y"), step)))

    def test_order_of_names_that_stand_nowhere(self):
        for names in (("a", "b"), ("b", "a", "c"), ("a", "b", "c", "d", "e", "f")):
            self.shown((claim(square_of(X)), ("order", names, ("step", ("square", X)))))
            self.shown((claim(less_of(unknown(names[1]), unknown(names[0]))), ("order", names, ("step", A))), False)
        # One that stands, one that doesn't.
        self.shown((claim(square_of(X)), ("order", ("a", "x"), ("step", ("square", X)))), False)
        self.shown((claim(ONE), ("order", ("a", "x"), ("step", ("number", (1, 1))))))

    def test_first(self):
        whole, paper = FIRST
        one, other = paper[2], paper[3]
        self.shown((whole, ("first", DOUBLED, other, other)), False)
        self.shown((whole, ("first", DOUBLED, one, one)), False)
        self.shown((whole, ("first", claim(weighed(X, (3, 1)), X), one, other)), False)
        self.shown((whole, ("first", claim(weighed(X, (3, 1)), X), ("step", ("times", ("number", (3, 1)), A)), other)), False)
        # It isn't shown by itself.
        self.shown((whole, ("first", DOUBLED, ("step", ("use", 0, (A,))), other)), False)
        self.shown((whole, ("first", whole, ("step", ("use", 0, (A,))), ("step", ("use", 0, (A,))))), False)
        # Its conditions aren't the claim's.
        self.shown((claim(X, X), ("first", claim(X), ("step", A), ("step", ("use", 0, ())))), False)
        self.shown((claim(X, X), ("first", claim(X, X), ("step", A), ("step", ("use", 0, ())))), False)
        self.shown((claim(X, X), ("first", claim(X, X), ("step", A), ("step", ("use", 0, (A,))))))

    def test_first_ones_in_order(self):
        ones = [claim(number_form((many, 1))) for many in (1, 2, 3)]
        papers = [("step", ("number", (many, 1))) for many in (1, 2, 3)]
        for number in range(4):
            whole = ("step", ("use", number, ()))
            for one, paper in list(zip(ones, papers))[::-1]:
                whole = ("first", one, paper, whole)
            for many in (1, 2, 3):
                self.shown((claim(number_form((many, 1))), whole), many == number + 1)
        # Those so far are known to the second first one, not to what stands beside.
        second = ("first", ones[1], ("step", ("sum", ("use", 0, ()), ("use", 0, ()))), ("step", ("sum", ("use", 0, ()), ("use", 1, ()))))
        self.shown((ones[2], ("first", ones[0], papers[0], second)))
        self.shown((ones[1], second), False)
        inner = ("first", ones[0], ("first", ones[0], papers[0], ("step", ("use", 0, ()))), ("step", ("use", 0, ())))
        self.shown((ones[0], inner))
        inner = ("first", ones[0], ("first", ones[0], papers[0], ("step", ("use", 0, ()))), ("step", ("use", 1, ())))
        self.shown((ones[0], inner), False)

    def test_first_within_others(self):
        use = ("use", 0, ())
        whole = claim(ONE)
        step = ("step", ("number", (1, 1)))
        for paper in (
            ("cases", X, ("step", use), ("step", use)), ("order", ("x", "y"), ("step", use)), ("part", (1, 1), ("number", (1, 1)), ("sum", use, use)),
            ("part", (1, 1), use, ("number", (2, 1))), ("step", ("put", (("x", Y),), use)),
        ):
            self.shown((whole, ("first", whole, step, paper)))
            self.shown((whole, paper), False)
        self.shown((claim(ONE, number_form((-2, 1))), ("first", whole, step, ("never", ("sum", A, use)))))
        # What is shown first in one case is none in the other one.
        self.shown((whole, ("cases", X, ("first", whole, step, ("step", use)), ("step", use))), False)
        self.shown((whole, ("cases", X, ("step", use), ("first", whole, step, ("step", use)))), False)

    def test_known(self):
        known = (("a", claim(square_of(X))), ("b", DOUBLED))
        for whole, paper in (
            (claim(square_of(X)), ("step", ("known", "a", ()))), (claim(weighed(X, (4, 1)), X), ("step", ("times", TWO, ("known", "b", (A,))))),
            (claim(ONE), ("cases", X, ("part", (1, 1), ("known", "a", ()), ("sum", ("number", (1, 1)), ("known", "a", ()))), ("step", ("number", (1, 1))))),
            (claim(square_of(X)), ("first", claim(square_of(X)), ("step", ("known", "a", ())), ("step", ("use", 0, ())))),
            (claim(square_of(X)), ("first", claim(X, X), ("step", A), ("step", ("known", "a", ())))),
            (claim(square_of(X)), ("order", ("y", "z"), ("step", ("known", "a", ())))),
            (claim(square_of(Y)), ("step", ("put", (("x", Y),), ("known", "a", ())))),
        ):
            with self.subTest(paper):
                self.assertIs(shows(whole, paper, known=known), True)
                self.assertIs(shows(whole, paper), False)
                self.assertIs(shows(whole, paper, known=(("c", ((), ())),)), False)
                self.assertIs(shows(whole, paper, known=(("a", claim(Y, Y)), ("b", claim(weighed(X, (2, 1)))))), False)

    def test_more_than_thirty_conditions_within(self):
        whole = claim(square_of(X), *[number_form((many, 1)) for many in range(30)])
        self.shown((whole, ("cases", X, ("step", ("times", ("given", 30), ("given", 30))), ("step", ("times", ("given", 30), ("given", 30))))))
        self.shown((whole, ("first", whole, ("step", ("square", X)), ("step", ("use", 0, tuple(("given", many) for many in range(30)))))))
        self.shown((whole, ("first", (whole[0] + (ONE,), X), ("step", A), ("step", ("square", X)))), False)

    def test_lists(self):
        for whole, paper in EXAMPLES:
            handed = nested_list(whole)
            self.assertIs(shows(handed, paper), True)
            self.assertEqual(handed, nested_list(whole))
            self.assertIs(shows(whole, nested_list(paper)), False)
            self.assertIs(shows(whole, list(paper)), False)
        self.assertIs(shows(nested_list(claim(square_of(X))), ("step", ("known", "a", ())), known=[["a", nested_list(claim(square_of(X)))]]), True)
        self.assertIs(shows(claim=claim(ONE), thing=("step", ("number", (1, 1))), known=[]), True)
        with self.assertRaises(TypeError):
            shows(claim(ONE), ("step", ("number", (1, 1))), ())

    def test_one_list_somewhere(self):
        for whole, paper in EXAMPLES:
            for other in listed(paper):
                self.assertIs(is_paper(other), False)
                self.assertIs(shows(whole, other), False)


def listed(thing):
    """The thing with a list for one tuple in it, in all ways."""
    if isinstance(thing, tuple):
        yield list(thing)
        for at, part in enumerate(thing):
            for other in listed(part):
                yield thing[:at] + (other,) + thing[at + 1:]


class IsPaper(unittest.TestCase):
    def test_papers(self):
        # Of whatever claim: whether it shows one isn't asked.
        step = ("step", ("given", 7))
        for paper in (
            step, ("part", (1, 9), TWO, A), ("never", A), ("cases", (), step, step), ("cases", X, step, LINE), ("order", ("b", "a"), step),
            ("order", ("x", "y", "z", "a", "abcdefgh"), step), ("first", ((), ()), step, ("one",)), ("first", ((X,) * 30, X), step, step),
            LINE, ("line", (), (), (), (-1, 2)), ("line", X, Y, ((X, (1, 1), ()), ((), (1, 3), Z)), (0, 1)), ("one",),
            ("step", ("known", "a", ())), ("never", ("use", 9, ())),
        ):
            with self.subTest(paper):
                self.assertIs(is_paper(paper), True)
                self.assertIs(is_paper(("cases", X, paper, paper)), True)
                self.assertIs(is_paper(("first", ((), X), paper, paper)), True)
                self.assertIs(is_paper(("order", ("x", "y"), paper)), True)

    def test_wrong_ones(self):
        step = ("step", TWO)
        rows = ((X, (1, 1), ONE),)
        for paper in (
            TWO, A, ("step",), ("step", step), ("step", TWO, TWO), ("step", ("number", (-1, 1))), ("step", None), ("part", (0, 1), TWO, TWO),
            ("part", (-1, 2), TWO, TWO), ("part", 1, TWO, TWO), ("part", (2, 2), TWO, TWO), ("part", (1, 1), TWO), ("part", (1, 1), step, TWO),
            ("part", (1, 1), TWO, step), ("part", (1, 1), TWO, TWO, TWO), ("part", None, TWO, TWO), ("never",), ("never", step), ("never", A, A),
            ("cases", X, step), ("cases", X, step, TWO), ("cases", X, TWO, step), ("cases", (1, 1), step, step), ("cases", None, step, step),
            ("cases", X, step, step, step), ("order", ("x",), step), ("order", (), step), ("order", ("x", "x"), step), ("order", ("x", "y", "x"), step),
            ("order", ("x", "Y"), step), ("order", ("x", 1), step), ("order", ("x", ""), step), ("order", "xy", step), ("order", ("x", "y"), TWO),
            ("order", ("x", "y")), ("order", ("x", "abcdefghi"), step), ("order", ["x", "y"], step), ("order", (("x",), ("y",)), step), ("order", None, step),
            ("order", ("x", "y"), step, step), ("first", X, step, step), ("first", ((), ()), step), ("first", ((), ()), step, TWO),
            ("first", ((), ()), TWO, step), ("first", ((X,) * 31, X), step, step), ("first", (X, X), step, step), ("first", None, step, step),
            ("first", ([], ()), step, step), ("line",), ("line", X, X, ()), ("line", X, X, (), 1), ("line", X, X, (), (2, 2)), ("line", X, (1, 1), (), (1, 1)),
            ("line", None, X, (), (1, 1)), ("line", X, None, (), (1, 1)), ("line", X, X, None, (1, 1)), ("line", X, X, (), None), ("line", X, X, (), (1, 1), ()),
            ("line", X, X, [], (1, 1)), ("line", X, X, (X,), (1, 1)), ("line", X, X, ((X, (1, 1)),), (1, 1)), ("line", X, X, ((X, (0, 1), X),), (1, 1)),
            ("line", X, X, ((X, (-1, 1), X),), (1, 1)), ("line", X, X, ((X, (1, 1), X, X),), (1, 1)), ("line", X, X, (list(rows[0]),), (1, 1)),
            ("line", X, X, ((X, 1, X),), (1, 1)), ("line", X, X, ((X, (1, 1), None),), (1, 1)), ("line", X, X, ((None, (1, 1), X),), (1, 1)),
            ("line", X, X, rows[0], (1, 1)), ("line", X, X, (None,), (1, 1)), ("one", ()), ("one", TWO), ("ones",), "one", ("One",), (("one",),), (None,), ((),),
        ):
            with self.subTest(paper):
                self.assertIs(is_paper(paper), False)
                self.assertIs(is_paper(("cases", X, ("one",), paper)), False)
                self.assertIs(is_paper(("first", ((), ()), paper, ("one",))), False)
                self.assertIs(is_paper(("order", ("x", "y"), paper)), False)
                self.assertIs(shows(claim(()), paper), False)
                self.assertIs(shows(claim(minus(ONE), minus(ONE)), paper), False)

    def test_things_of_any_kind_stay(self):
        for thing in THINGS:
            self.assertIs(is_paper(thing), False)
            self.assertIs(shows(claim(()), thing), False)
            self.assertIs(is_paper(("step", thing)), False)
            self.assertIs(is_paper(("one", thing)), False)
            self.assertIs(is_paper(("order", thing, ("one",))), False)
            for word in ("cases", "order", "first", "line", "part"):
                for many in range(1, 5):
                    self.assertIs(is_paper((word,) + (thing,) * many), False)
        thing = ["step", ["number", [1, 1]]]
        self.assertIs(is_paper(thing), False)
        self.assertIs(shows(claim(ONE), thing), False)
        self.assertEqual(thing, ["step", ["number", [1, 1]]])

    def test_of_many_parts(self):
        step = ("number", (1, 200))
        for _ in range(199):
            step = ("sum", ("number", (1, 200)), step)
        self.assertIs(shows(claim(ONE), ("step", step)), True)
        self.assertIs(shows(claim(number_form((199, 200))), ("step", step)), False)
        paper = ("step", ("square", X))
        for many in range(66):
            paper = ("cases", less_of(X, number_form((many, 1))), ("step", ("square", X)), paper)
        self.assertIs(shows(claim(square_of(X)), paper), True)
        self.assertIs(shows(claim(square_of(Y)), paper), False)
        paper = ("step", ("use", 99, ()))
        for many in range(100):
            paper = ("first", claim(square_of(X)), ("step", ("use", 98 - many, ())) if many < 99 else ("step", ("square", X)), paper)
        self.assertIs(shows(claim(square_of(X)), paper), True)
        paper = ("step", ("square", Z))
        for _ in range(700):
            paper = ("order", ("x", "y"), paper)
        self.assertIs(is_paper(paper), True)
        self.assertEqual(leans_on(paper), [])


class Lines(unittest.TestCase):
    # x * x - 2 where x is 3/2 at least: x * x - 2, 2 * x, 2.
    T = form_from("1*x^2 + -2")
    S = form_from("1*x + -5")
    ABOVE = (form_from("1*x + -3/2"),)
    ROWS = ((form_from("1/2*x"), (1, 1), form_from("2")),)

    def shown(self, conditions, goal, paper, told=True):
        self.assertIs(shows((conditions, goal), paper), told)

    def goal(self, s=None, t=None):
        s, t = self.S if s is None else s, self.T if t is None else t
        return times_of(square_of(s), t)

    def test_kept(self):
        self.shown(self.ABOVE, self.goal(), ("line", self.S, self.T, self.ROWS, (2, 1)))
        # A weight more.
        rows = ((form_from("1/2*x"), (1, 3), form_from("6")),)
        self.shown(self.ABOVE, self.goal(), ("line", self.S, self.T, rows, (2, 1)))
        # Above nought on all of it.
        rows = ((form_from("1/2*x"), (1, 1), form_from("-2")),)
        self.shown((), form_from("1*x^2 + 2"), ("line", ONE, form_from("1*x^2 + 2"), rows, (0, 1)))
        # The sample where s is nought: t is above nought there.
        self.shown(self.ABOVE, self.goal(), ("line", self.S, self.T, self.ROWS, (5, 1)))

    def test_quotient_weight_next_otherwise(self):
        for row in (
            (form_from("1/3*x"), (1, 1), form_from("2")), (form_from("1/2*x + 1"), (1, 1), form_from("2")), ((), (1, 1), form_from("2")),
            (form_from("-1/2*x"), (1, 1), form_from("2")), (form_from("1/2*x"), (2, 1), form_from("2")), (form_from("1/2*x"), (1, 2), form_from("2")),
            (form_from("1/2*x"), (1, 1), form_from("1")), (form_from("1/2*x"), (1, 1), form_from("-2")), (form_from("1/2*x"), (1, 1), ()),
            (form_from("1/2*x"), (1, 1), form_from("2 + 1*x")), (form_from("1/2*x"), (-1, 1), form_from("-2")), (form_from("1/2*x"), (0, 1), form_from("2")),
            (form_from("1/2*y"), (1, 1), form_from("2")), (form_from("1/2*x"), (1, 1), form_from("2*y")),
        ):
            with self.subTest(row):
                self.shown(self.ABOVE, self.goal(), ("line", self.S, self.T, (row,), (2, 1)), False)

    def test_rows_out_and_more(self):
        row = self.ROWS[0]
        for rows in ((), (row, row), (row, row, row), (row, (X, (1, 1), ()))):
            self.shown(self.ABOVE, self.goal(), ("line", self.S, self.T, rows, (2, 1)), False)
        # One more that goes on from 2 * x and 2: 2 * x = x * 2 - 1 * 0 ends with nought.
        self.shown(self.ABOVE, self.goal(), ("line", self.S, self.T, (row, (X, (1, 1), ())), (2, 1)), False)
        # And one behind: 2 = 0 * q - 1 * -2, nought in the midst.
        for quotient in ((), X, ONE):
            rows = (row, (X, (1, 1), ()), (quotient, (1, 1), form_from("-2")))
            self.shown(self.ABOVE, self.goal(), ("line", self.S, self.T, rows, (2, 1)))
        # A number in the midst: 2 * x = (x - 1) * 2 - 1 * -2.
        rows = (row, (less_of(X, ONE), (1, 1), form_from("-2")))
        self.shown(self.ABOVE, self.goal(), ("line", self.S, self.T, rows, (2, 1)))
        # A number in the midst, then one that's none, then a number: 2 * x, 2, 2 * x, 2 * x * 1 - 2 ..
        rows = (row, (weighed(X, (2, 1)), (1, 1), weighed(X, (2, 1))), (ONE, (1, 1), less_of(weighed(X, (2, 1)), form_from("2"))))
        self.shown(self.ABOVE, self.goal(), ("line", self.S, self.T, rows, (2, 1)), False)
        rows += ((ONE, (1, 1), form_from("-2")),)
        self.shown(self.ABOVE, self.goal(), ("line", self.S, self.T, rows, (2, 1)))

    def test_rows_of_other_unknowns(self):
        # x + 1, 1, y, -1: each one is as told, and y's sign would be x's.
        t = form_from("1*x + 1")
        rows = ((plus_of(t, Y), (1, 1), Y), ((), (1, 1), form_from("-1")))
        self.shown((X,), t, ("line", ONE, t, rows, (1, 1)), False)
        rows = ((plus_of(t, X), (1, 1), X), ((), (1, 1), form_from("-1")))
        self.shown((X,), t, ("line", ONE, t, rows, (1, 1)))
        self.shown((X,), t, ("line", ONE, t, (), (1, 1)))

    def test_samples(self):
        for sample, told in (
            ((2, 1), True), ((151, 100), True), ((10 ** 60, 1), True), ((3, 2), False), ((149, 100), False), ((0, 1), False), ((-2, 1), False),
        ):
            self.shown(self.ABOVE, self.goal(), ("line", self.S, self.T, self.ROWS, sample), told)
        ends = self.ABOVE + (form_from("-1*x + 3"),)
        for sample, told in (((2, 1), True), ((299, 100), True), ((3, 1), False), ((3, 2), False), ((301, 100), False), ((1, 1), False)):
            self.shown(ends, self.goal(), ("line", self.S, self.T, self.ROWS, sample), told)
        # At which t isn't above nought: below, all over; or nought.
        below = minus(self.T)
        rows = ((form_from("1/2*x"), (1, 1), form_from("-2")),)
        self.shown(self.ABOVE, self.goal(t=below), ("line", self.S, below, rows, (2, 1)), False)
        within = (form_from("1*x + 1"), form_from("-1*x + 1"))
        self.shown(within, self.goal(t=below), ("line", self.S, below, rows, (0, 1)))
        self.shown(within, self.goal(), ("line", self.S, self.T, self.ROWS, (0, 1)), False)

    def test_roots_in_the_stretch(self):
        below = minus(self.T)
        rows = ((form_from("1/2*x"), (1, 1), form_from("-2")),)
        for low, high, sample, told in (
            ((3, 2), None, (2, 1), True), ((7, 5), None, (2, 1), False), ((-3, 2), None, (2, 1), False), (None, (-3, 2), (-2, 1), True),
            (None, (-7, 5), (-2, 1), False), (None, (3, 2), (-2, 1), False), (None, None, (2, 1), False), ((-2, 1), (2, 1), (19, 10), False),
        ):
            conditions = self.stretch(low, high)
            self.shown(conditions, self.goal(), ("line", self.S, self.T, self.ROWS, sample), told)
        for low, high, told in (
            ((-7, 5), (7, 5), True), ((-3, 2), (7, 5), False), ((-7, 5), (3, 2), False), ((-3, 2), (3, 2), False), ((-7, 5), None, False),
        ):
            self.shown(self.stretch(low, high), self.goal(t=below), ("line", self.S, below, rows, (0, 1)), told)

    def stretch(self, low, high):
        lows = () if low is None else (less_of(X, number_form(low)),)
        return lows + (() if high is None else (less_of(number_form(high), X),))

    def test_nought_at_the_ends(self):
        # x * x - 3 * x + 2, 2 * x - 3, 1/4: nought at 1 and 2.
        t = form_from("1*x^2 + -3*x + 2")
        rows = ((form_from("1/2*x + -3/4"), (1, 1), form_from("1/4")),)
        for low, high, sample, told in (
            (None, (1, 1), (0, 1), True), ((2, 1), None, (3, 1), True), ((0, 1), (1, 1), (1, 2), True), ((2, 1), (9, 1), (3, 1), True),
            (None, (11, 10), (0, 1), False), (None, (2, 1), (0, 1), False), ((1, 1), None, (3, 1), False), ((1, 1), (2, 1), (3, 2), False),
            ((0, 1), (2, 1), (1, 2), False), ((0, 1), None, (3, 1), False), (None, None, (0, 1), False), (None, (1, 1), (1, 1), False),
            ((2, 1), None, (2, 1), False),
        ):
            with self.subTest(low=low, high=high):
                self.shown(self.stretch(low, high), t, ("line", ONE, t, rows, sample), told)
        below = minus(t)
        rows = ((form_from("1/2*x + -3/4"), (1, 1), form_from("-1/4")),)
        for low, high, sample, told in (
            ((1, 1), (2, 1), (3, 2), True), ((1, 1), (3, 2), (5, 4), True), ((9, 10), (2, 1), (3, 2), False), ((1, 1), (21, 10), (3, 2), False),
            ((1, 1), None, (3, 2), False), (None, (2, 1), (3, 2), False), ((5, 4), (2, 1), (3, 2), True),
        ):
            with self.subTest(low=low, high=high):
                self.shown(self.stretch(low, high), below, ("line", ONE, below, rows, sample), told)

    def test_numbers(self):
        for number, told in (((0, 1), True), ((5, 1), True), ((1, 9), True), ((-1, 9), False)):
            for sample in ((0, 1), (1, 1), (-7, 1)):
                form = number_form(number)
                # Sample any fraction, in the stretch or not.
                self.shown((), self.goal(t=form), ("line", self.S, form, (), sample), told and form != ())
                self.shown(self.stretch((0, 1), (1, 1)), self.goal(t=form), ("line", self.S, form, (), sample), told)
                self.shown(self.stretch((0, 1), (1, 1)), form, ("line", ONE, form, (), sample), told)
        self.shown((), (), ("line", (), X, (), (0, 1)), False)
        self.shown((), (), ("line", (), X, (), (1, 1)), False)
        self.shown(self.stretch((0, 1), None), (), ("line", (), X, (), (1, 1)))
        self.shown((), (), ("line", (), (), (), (1, 1)))
        self.shown((), (), ("line", X, (), (), (1, 1)), False)
        self.shown((X,), (), ("line", X, (), (), (1, 1)))
        # Where no unknown stands s and t have none.
        self.shown((ONE,), ONE, ("line", minus(ONE), ONE, (), (1, 1)))
        self.shown((ONE,), (), ("line", (), X, (), (1, 1)), False)
        # A number with rows: its slope is nought, then the chain may end with one that isn't.
        rows = (((), (1, 1), minus(ONE)),)
        self.shown((), ONE, ("line", ONE, ONE, rows, (0, 1)))
        self.shown(self.stretch((0, 1), None), ONE, ("line", ONE, ONE, rows, (0, 1)), False)
        self.shown((), minus(ONE), ("line", ONE, minus(ONE), (((), (1, 1), ONE),), (0, 1)), False)
        self.shown((), (), ("line", ONE, (), (((), (1, 1), ()),), (0, 1)), False)

    def test_goals_and_squares_otherwise(self):
        good = ("line", self.S, self.T, self.ROWS, (2, 1))
        for goal in (self.T, self.goal(s=ONE), weighed(self.goal(), (2, 1)), plus_of(self.goal(), ONE), minus(self.goal()), times_of(self.S, self.T)):
            self.shown(self.ABOVE, goal, good, False)
        for s in (minus(self.S), self.S):
            self.shown(self.ABOVE, self.goal(), ("line", s, self.T, self.ROWS, (2, 1)))
        for s in (ONE, X, weighed(self.S, (2, 1)), (), form_from("1*y + -5")):
            self.shown(self.ABOVE, self.goal(), ("line", s, self.T, self.ROWS, (2, 1)), False)

    def test_of_what_is_no_line(self):
        good = ("line", self.S, self.T, self.ROWS, (2, 1))
        for condition in (Y, form_from("1*x*y"), form_from("1*x^2"), plus_of(square_of(X), ONE), plus_of(X, Y)):
            self.shown(self.ABOVE + (condition,), self.goal(), good, False)
            self.shown((condition,), ONE, ("line", ONE, ONE, (), (0, 1)), condition == Y)
        self.shown(self.ABOVE + (ONE, ()), self.goal(), good)
        # A goal of other unknowns.
        for s, t in ((ONE, X), (ONE, Y)):
            self.shown((X,), times_of(square_of(s), t), ("line", s, t, (), (1, 1)), t == X)
        self.shown((X,), square_of(Y), ("line", Y, ONE, (), (1, 1)), False)
        self.shown((), square_of(Y), ("line", Y, ONE, (), (1, 1)))
        self.shown((), times_of(square_of(Y), ONE), ("line", X, ONE, (), (1, 1)), False)
        self.shown((), square_of(plus_of(X, Y)), ("line", plus_of(X, Y), ONE, (), (1, 1)), False)

    def test_bare_stretches_and_such_of_one_fraction(self):
        bare = self.stretch((1, 1), (0, 1))
        point = self.stretch((1, 1), (1, 1))
        for conditions in (bare, point, (minus(ONE),)):
            self.shown(conditions, ONE, ("line", ONE, ONE, (), (1, 1)), False)
            self.shown(conditions, (), ("line", (), ONE, (), (1, 1)), False)
        for conditions in (bare, (), (minus(ONE),), (X,), self.stretch((0, 1), (1, 1)), point + (minus(ONE),), (square_of(X), X, minus(X))):
            self.shown(conditions, ONE, ("one",), False)
            self.shown(conditions, (), ("one",), False)
        for goal, told in (
            (X, True), (less_of(X, ONE), True), (less_of(ONE, X), True), (less_of(X, number_form((3, 2))), False), (minus(ONE), False),
            (ONE, True), ((), True), (minus(X), False), (form_from("1*x^3 + -1*x^2"), True), (Y, False), (square_of(Y), False),
        ):
            self.shown(point, goal, ("one",), told)
        self.shown(point + (less_of(X, number_form((1, 2))), ONE), X, ("one",))
        self.shown(point + (less_of(X, number_form((3, 2))),), X, ("one",), False)
        self.shown(point + (square_of(X),), X, ("one",), False)
        self.shown((less_of(Y, ONE), less_of(ONE, Y)), Y, ("one",))

    def test_drawn_ones_that_are_shown_hold(self):
        # Papers with one thing otherwise: what is shown all the same holds.
        drawer = Drawer("line papers")
        shown = 0
        for _ in range(1500):
            t = drawer.chance.choice((self.T, minus(self.T), form_from("1*x + -1"), form_from("1*x^2 + -3*x + 2")))
            s = drawer.chance.choice((ONE, X, self.S))
            low, high = sorted(drawer.number(-4, 4) for _ in range(2))
            conditions = self.stretch((low, 2) if low % 2 else (low // 2, 1), (high, 2) if high % 2 else (high // 2, 1))
            rows = drawer.chance.choice(((), self.ROWS, ((form_from("1/2*x"), (1, 1), form_from("-2")),), ((form_from("1/2*x + -3/4"), (1, 1), form_from("1/4")),)))
            whole = (conditions, self.goal(s, t))
            if shows(whole, ("line", s, t, rows, lowest(drawer.number(-8, 8), 4))):
                shown += 1
                for top in range(-40, 41):
                    self.assertFalse(fails_at(whole, (("x", lowest(top, 10)),)))
        self.assertGreater(shown, 8)


class LeansOn(unittest.TestCase):
    def test_within_all_words(self):
        def known(name, *steps):
            return ("known", name, steps)

        step = ("step", known("s", known("r", known("q"), TWO), ("put", (), known("p")), ("use", 0, (known("o"),))))
        for paper, names in (
            (LINE, []), (("one",), []), (("step", TWO), []), (step, ["o", "p", "q", "r", "s"]), (("never", known("a")), ["a"]),
            (("part", (1, 1), known("b"), known("a")), ["a", "b"]), (("cases", X, ("step", known("b")), ("step", known("a"))), ["a", "b"]),
            (("order", ("x", "y"), ("never", ("sum", TWO, known("zz")))), ["zz"]), (("first", ((), ()), ("step", known("b")), ("step", ("times", known("a"), known("b")))), ["a", "b"]),
            (("cases", X, ("first", ((), ()), step, ("step", known("s"))), LINE), ["o", "p", "q", "r", "s"]),
        ):
            with self.subTest(paper):
                told = leans_on(paper)
                self.assertEqual(told, names)
                self.assertEqual(leans_on(paper=nested_list(paper)), names)
                told.append("x")
                self.assertEqual(leans_on(paper), names)
                self.assertIsNot(leans_on(paper), leans_on(paper))

    def test_names_rise(self):
        paper = ("step", ("use", 0, tuple(("known", name, ()) for name in ("b", "ab", "aa", "b", "a"))))
        self.assertEqual(leans_on(paper), ["a", "aa", "ab", "b"])


class Soundness(unittest.TestCase):
    def test_what_is_shown_holds(self):
        # Papers under claims that aren't theirs: what is shown all the same fails nowhere.
        drawer = Drawer("papers")
        shown = 0
        papers = [paper for whole, paper in EXAMPLES]
        wholes = [whole for whole, paper in EXAMPLES]
        for whole in wholes:
            for paper in papers:
                for one in papers:
                    for made in (paper, ("cases", X, paper, one), ("first", wholes[0], paper, one), ("order", ("x", "y"), paper)):
                        if shows(whole, made):
                            shown += 1
                            for _ in range(20):
                                self.assertFalse(fails_at(whole, drawer.place(("x", "y", "z"), 3)))
        self.assertGreater(shown, 100)


if __name__ == "__main__":
    unittest.main()
