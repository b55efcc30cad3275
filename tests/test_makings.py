import unittest

from drawing import Drawer, form_from, has_list, nested_list
from squarepapers.claims import fails_at
from squarepapers.errors import NotAhead
from squarepapers.forms import number_form, plus_of, times_of, unknown, weighed
from squarepapers.makings import joined, summed, turned_claim, turned_paper
from squarepapers.papers import is_paper, leans_on, shows
from squarepapers.places import turned
from test_papers import A, B, EXAMPLES, ONE, TWO, X, Y, claim, square_of

PAIRS = (("x", "y"), ("y", "z"), ("z", "x"))
BACK = (("x", "z"), ("y", "x"), ("z", "y"))
# A paper with all words but known, and the claim that it shows: x * x not below nought.
SQUARE = claim(square_of(X))
LINE_OF_X = ("line", ONE, form_from("1*x^2 + 1"), ((form_from("1/2*x"), (1, 1), form_from("-1")),), (0, 1))
ALL_WORDS = (
    "first", claim(form_from("1*x^2 + 1")), LINE_OF_X,
    (
        "first", claim(square_of(Y), Y, weighed(Y, (-1, 1))), ("one",),
        (
            "cases", X,
            ("part", (1, 1), ("square", Y), ("sum", ("square", X), ("put", (("x", Y), ("y", X)), ("square", times_of(X, Y))))),
            (
                "first", claim(X, ONE, number_form((-1, 1))), ("never", B),
                (
                    "order", ("z", "y"),
                    (
                        "first", claim(unknown("z"), unknown("z")), ("step", A),
                        ("part", (1, 1), TWO, ("times", ("number", (3, 1)), ("square", X))),
                    ),
                ),
            ),
        ),
    ),
)


class Turned(unittest.TestCase):
    def test_claims(self):
        whole = (form_from("1*x + -1*y"), form_from("1*z^2"), ONE), form_from("1*x^2*y")
        self.assertEqual(turned_claim(whole, PAIRS), ((form_from("1*y + -1*z"), form_from("1*x^2"), ONE), form_from("1*y^2*z")))
        self.assertEqual(turned_claim(turned_claim(whole, PAIRS), BACK), whole)
        self.assertEqual(turned_claim(((), ()), ()), ((), ()))
        self.assertEqual(turned_claim(claim(X, Y), (("x", "b"), ("y", "a"))), claim(unknown("b"), unknown("a")))
        # The order of conditions stays, more of the same too.
        self.assertEqual(turned_claim(claim(X, Y, X, Y), (("x", "y"), ("y", "x"))), claim(Y, X, Y, X))
        self.assertEqual(turned_claim(claim(X, Y, X, X, Y), (("x", "b"), ("y", "a")))[0], tuple(map(unknown, "abba")))

    def test_claims_fail_at_turned_places(self):
        drawer = Drawer("turned claims")
        for _ in range(60):
            whole = (tuple(drawer.line(("x", "y")) for _ in range(2)), drawer.form(("x", "y", "z"), 2))
            place = drawer.place(("x", "y", "z"))
            other = tuple(sorted((dict(PAIRS)[name], worth) for name, worth in place))
            self.assertIs(fails_at(whole, place), fails_at(turned_claim(whole, PAIRS), other))

    def test_all_words(self):
        self.assertIs(shows(SQUARE, ALL_WORDS), True)
        for pairs, back in ((PAIRS, BACK), ((("x", "b"), ("y", "ab"), ("z", "a")), (("a", "z"), ("ab", "y"), ("b", "x")))):
            paper = turned_paper(ALL_WORDS, pairs)
            self.assertIs(is_paper(paper), True)
            self.assertIs(shows(turned_claim(SQUARE, pairs), paper), True)
            self.assertIs(shows(SQUARE, paper), False)
            self.assertEqual(turned_paper(paper, back), ALL_WORDS)

    def test_by_hand(self):
        pairs = (("x", "z"), ("y", "a"), ("z", "y"))
        a, y, z = unknown("a"), unknown("y"), unknown("z")
        for paper, told in (
            (("step", ("number", (1, 2))), ("step", ("number", (1, 2)))),
            (("step", ("square", X)), ("step", ("square", z))),
            (("never", A), ("never", A)),
            (("step", ("put", (("x", Y), ("y", X), ("z", ONE)), ("square", plus_of(X, Y)))),
             ("step", ("put", (("a", z), ("y", ONE), ("z", a)), ("square", plus_of(a, z))))),
            (("order", ("z", "x", "y"), ("step", TWO)), ("order", ("y", "z", "a"), ("step", TWO))),
            (("order", ("x", "y", "z"), ("step", TWO)), ("order", ("z", "a", "y"), ("step", TWO))),
            (("part", (1, 3), ("square", X), ("square", Y)), ("part", (1, 3), ("square", z), ("square", a))),
            (("cases", X, ("step", ("square", X)), ("one",)), ("cases", z, ("step", ("square", z)), ("one",))),
            (("first", claim(X, Y, z), ("one",), ("never", ("use", 0, (("square", X), TWO)))),
             ("first", claim(z, a, y), ("one",), ("never", ("use", 0, (("square", z), TWO))))),
            (("line", X, square_of(X), ((X, (1, 7), ONE), (ONE, (2, 1), X)), (3, 4)),
             ("line", z, square_of(z), ((z, (1, 7), ONE), (ONE, (2, 1), z)), (3, 4))),
        ):
            with self.subTest(paper):
                self.assertEqual(turned_paper(paper, pairs), told)

    def test_examples(self):
        for whole, paper in EXAMPLES:
            told = turned_paper(paper, PAIRS)
            self.assertIs(shows(turned_claim(whole, PAIRS), told), True)
            self.assertIs(shows(whole, told), shows(turned_claim(whole, BACK), paper))
            self.assertEqual(turned_paper(told, BACK), paper)
            # What doesn't show doesn't turned.
            for other, _ in EXAMPLES:
                self.assertIs(shows(turned_claim(other, PAIRS), told), shows(other, paper))

    def test_deep(self):
        paper = ("step", ("square", X))
        for _ in range(400):
            paper = ("cases", X, paper, ("step", ("square", X)))
        told = turned_paper(paper, (("x", "y"),))
        self.assertEqual(told[1], Y)
        self.assertIs(shows(claim(square_of(Y)), turned_paper(("first", SQUARE, ("step", ("square", X)), ("step", ("use", 0, ()))), (("x", "y"),))), True)

    def test_lists(self):
        whole, paper = EXAMPLES[0]
        handed = [nested_list(part) for part in (whole, ALL_WORDS, PAIRS)]
        self.assertEqual(turned_claim(claim=handed[0], pairs=handed[2]), turned_claim(whole, PAIRS))
        self.assertEqual(turned_paper(paper=handed[1], pairs=handed[2]), turned_paper(ALL_WORDS, PAIRS))
        self.assertFalse(has_list(turned_claim(handed[0], handed[2])))
        self.assertFalse(has_list(turned_paper(handed[1], handed[2])))
        self.assertEqual(handed, [nested_list(part) for part in (whole, ALL_WORDS, PAIRS)])


class Summed(unittest.TestCase):
    def test_of_steps(self):
        one, other = ("step", A), ("step", ("times", TWO, B))
        told = summed(one, other)
        self.assertEqual(told, ("step", ("sum", A, ("times", TWO, B))))
        self.assertIs(shows(claim(X, X, Y), one), True)
        self.assertIs(shows(claim(weighed(Y, (2, 1)), X, Y), other), True)
        self.assertIs(shows(claim(plus_of(X, weighed(Y, (2, 1))), X, Y), told), True)
        self.assertEqual(summed(one, one), ("step", ("sum", A, A)))

    def test_of_others(self):
        step = ("step", A)
        for whole, paper in EXAMPLES:
            for one, other in ((step, paper), (paper, step), (paper, paper)):
                if paper[0] == "step":
                    self.assertEqual(summed(one, other), ("step", ("sum", one[1], other[1])))
                else:
                    self.assertIsNone(summed(one, other))

    def test_lists(self):
        handed = [["step", ["square", nested_list(X)]], ["step", ["given", 0]]]
        told = summed(one=handed[0], other=handed[1])
        self.assertEqual(told, ("step", ("sum", ("square", X), A)))
        self.assertFalse(has_list(told))
        self.assertEqual(handed, [["step", ["square", nested_list(X)]], ["step", ["given", 0]]])
        self.assertIsNone(summed(["one"], ["step", ["given", 0]]))


def known(name, *steps):
    return ("known", name, steps)


class Joined(unittest.TestCase):
    def check(self, *triples):
        """Joins triples, each of them shown with those ahead known; what is told."""
        for at, (name, whole, paper) in enumerate(triples):
            ahead = tuple(sorted((held, other) for held, other, _ in triples[:at]))
            self.assertIs(shows(whole, paper, known=ahead), True, name)
        told = joined(list(triples))
        self.assertIs(is_paper(told), True)
        self.assertEqual(leans_on(told), [])
        self.assertIs(shows(triples[-1][1], told), True)
        self.assertEqual(told, joined(tuple(triples)))
        return told

    A = ("a", SQUARE, ("step", ("square", X)))
    B = ("b", claim(form_from("2*x^2")), ("step", ("sum", known("a"), known("a"))))

    def test_one(self):
        for whole, paper in EXAMPLES:
            self.check(("a", whole, paper))
        self.check(("a", SQUARE, ALL_WORDS))

    def test_straight_and_through_others(self):
        c = ("c", claim(form_from("3*x^2")), ("step", ("sum", known("a"), known("b"))))
        d = ("d", claim(form_from("6*x^2")), ("step", ("times", TWO, known("c"))))
        e = ("e", claim(square_of(Y)), ("step", ("put", (("x", Y),), known("a"))))
        self.check(self.A, self.B)
        self.check(self.A, self.B, c)
        self.check(self.A, self.B, c, d)
        self.check(self.A, self.B, e)
        self.check(self.A, e, self.B, c, d)
        self.check(self.A, self.B, e, self.A[:0] + ("f", claim(form_from("2*x^2 + 1*y^2")), ("step", ("sum", known("b"), known("e")))))
        # NAMEs need not rise.
        self.check(("z",) + self.A[1:], ("b", claim(square_of(X)), ("step", known("z"))), ("y", claim(square_of(X)), ("step", known("b"))))
        self.check(("z",) + self.A[1:], ("y", SQUARE, ("step", known("z"))), ("a", SQUARE, ("step", known("y"))), ("x", SQUARE, ("step", known("a"))))

    def test_on_none(self):
        self.check(self.A, self.B, ("c", claim(ONE), ("step", ("number", (1, 1)))))
        self.check(self.A, ("b", claim(ONE), ("step", ("number", (1, 1)))), ("c", claim(square_of(X)), ("step", known("a"))))

    def test_those_not_leaned_on_may_be_shown_by_none(self):
        # Just what the last one leans on is in its paper.
        told = joined([("x", claim(X), ("step", A)), self.A, ("b", claim(Y), ("step", known("x"))), ("c", SQUARE, ("step", known("a")))])
        self.assertIs(shows(SQUARE, told), True)

    def test_with_conditions(self):
        twice = ("a", claim(weighed(X, (2, 1)), X), ("step", ("times", TWO, A)))
        four = ("b", claim(weighed(X, (4, 1)), X), ("step", ("times", TWO, known("a", A))))
        both = ("c", claim(times_of(X, Y), X, Y), ("step", ("times", A, B)))
        self.check(twice, four)
        self.check(twice, both, ("d", claim(weighed(times_of(X, Y), (2, 1)), Y, X), ("step", ("times", TWO, known("c", B, A)))))
        # Known within steps that known has.
        weigh = ("d", claim(weighed(X, (8, 1)), weighed(X, (4, 1))), ("step", ("times", TWO, A)))
        self.check(twice, four, weigh, ("e", claim(weighed(X, (8, 1)), Y, X), ("step", known("d", known("b", B)))))
        self.check(
            twice, four, weigh,
            ("e", claim(weighed(X, (8, 1)), X), ("first", SQUARE, ("step", ("square", X)), ("step", known("d", known("b", A))))),
        )

    def test_within_all_words(self):
        one = ("one", claim(ONE), ("step", ("number", (1, 1))))
        use = ("use", 0, ())
        a, b, n = known("a"), known("b"), known("one")
        squares = ("step", a)
        for paper in (
            squares, ("part", (1, 1), n, ("sum", a, a)), ("part", (1, 1), a, ("times", a, ("sum", a, n))), ("cases", X, squares, squares),
            ("cases", plus_of(X, Y), ("part", (1, 1), n, b), squares), ("order", ("y", "z"), squares), ("order", ("y", "z"), ("part", (1, 1), n, b)),
            ("first", SQUARE, squares, squares), ("first", SQUARE, squares, ("step", use)), ("first", SQUARE, ("first", SQUARE, squares, ("step", use)), ("step", use)),
            ("first", claim(ONE), ("step", n), ("part", (1, 1), use, b)), ("first", claim(ONE), ("step", n), ("first", claim(form_from("2*x^2")), ("step", b), ("part", (1, 1), use, ("use", 1, ())))),
            ("step", ("put", (("y", X),), a)), ("step", ("put", (("y", X),), ("put", (("x", Y),), a))),
            ("first", claim(ONE), ("step", n), ("step", ("times", use, ("put", (("y", X),), ("times", ("put", (("x", Y),), a), use))))),
            ("cases", X, ("first", claim(ONE), ("step", n), ("step", ("times", a, use))), ("first", SQUARE, squares, ("step", ("times", use, n)))),
            ("first", SQUARE, squares, ("order", ("z", "w"), ("cases", X, ("step", use), ("part", (1, 1), n, ("sum", use, a))))),
        ):
            with self.subTest(paper):
                self.check(self.A, self.B, one, ("last", SQUARE, paper))
                # Others that lean on it, and ones with own first ones on both sides.
                again = ("again", SQUARE, ("first", claim(ONE), ("step", n), ("step", ("times", use, known("last")))))
                self.check(self.A, self.B, one, ("last", SQUARE, paper), again)
                self.check(self.A, one, self.B, ("last", SQUARE, paper), again, ("more", SQUARE, ("first", SQUARE, ("step", known("again")), ("step", use))))
        negative = number_form((-1, 1))
        self.check(one, ("last", claim(negative, X, weighed(plus_of(X, number_form((2, 1))), (-1, 1))), ("never", ("sum", ("sum", A, B), known("one")))))

    def test_refused(self):
        c = ("c", SQUARE, ("step", known("b")))
        for triples, name in (
            ([self.B], "b"), ([self.B, self.A], "b"), ([self.A, c, self.B], "c"), ([c, self.B, self.A], "c"), ([self.A, c], "c"),
            ([self.A, self.B, ("d", SQUARE, ("step", known("d")))], "d"), ([("a", SQUARE, ("step", known("a")))], "a"),
            ([self.A, ("d", SQUARE, ("cases", X, ("step", known("a")), ("step", known("e")))), c], "d"),
            ([self.A, ("d", SQUARE, ("step", ("sum", known("d"), known("a")))), self.B], "d"),
            ([self.B, self.A, ("c", SQUARE, ("step", known("a")))], "b"),
            ([self.A, ("n", SQUARE, ("step", known("m"))), ("m", SQUARE, ("step", known("n"))), c], "n"),
        ):
            with self.assertRaises(NotAhead) as caught:
                joined(triples)
            self.assertEqual(caught.exception.name, name)
            self.assertIsInstance(caught.exception, LookupError)
            self.assertNotIsInstance(caught.exception, (KeyError, IndexError))

    def test_lists(self):
        triples = [self.A, self.B, ("c", SQUARE, ("step", ("put", (("x", X),), known("a"))))]
        handed = nested_list(triples)
        told = joined(papers=handed)
        self.assertEqual(told, joined(triples))
        self.assertFalse(has_list(told))
        self.assertEqual(handed, nested_list(triples))

    def test_two_hundred_parts_and_told_ones_again(self):
        triples = [("a", SQUARE, ("step", ("square", X)))]
        names = ["b", "c", "d", "e", "f", "g", "h", "i", "j", "k"]
        for name in names:
            step = known(triples[-1][0])
            for _ in range(9):
                step = ("sum", ("number", (0, 1)), step)
            triples.append((name, SQUARE, ("cases", X, ("step", step), ("step", step))))
        told = self.check(*triples)
        again = self.check(("a", SQUARE, told), ("b", SQUARE, ("step", known("a"))))
        for many in range(5):
            again = self.check(("a", SQUARE, again), ("b", SQUARE, ("first", SQUARE, told, ("step", ("times", ("number", (1, 1)), known("a"))))))
        self.assertIs(shows(SQUARE, again), True)
        # A long chain.
        triples = [("a", SQUARE, ("step", ("square", X)))]
        for one in range(10):
            for other in range(10):
                name = "b" + "abcdefghij"[one] + "abcdefghij"[other]
                triples.append((name, SQUARE, ("step", known(triples[-1][0]))))
        self.check(*triples)


if __name__ == "__main__":
    unittest.main()
