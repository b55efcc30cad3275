"""What holds over the whole program: from formulas to books and the desk."""
import unittest

from drawing import Drawer, has_list, nested_list
from squarepapers.book import Book, book_paper, shows_book
from squarepapers.brought import lifted
from squarepapers.claims import claim_of, fails_at, line_of, unknowns_in
from squarepapers.claimtexts import claim_in, claim_text, place_text
from squarepapers.desk import run
from squarepapers.errors import BadPaper, BadPlace
from squarepapers.forms import degree_of, number_form, plus_of, power_of, unknown, weighed
from squarepapers.formulas import worth_of
from squarepapers.formulatexts import formula_in, formula_text
from squarepapers.fractions import lowest
from squarepapers.makings import joined, summed, turned_claim, turned_paper
from squarepapers.papers import leans_on, shows
from squarepapers.seeking import seek
from squarepapers.squares import squares_of

X = unknown("x")


class Sound(unittest.TestCase):
    """A claim that a paper shows fails at no place tried; a place that's told to fail does."""

    def claims(self):
        drawer = Drawer("whole")
        for _ in range(400):
            names = ("x", "y", "z")[:drawer.number(1, 3)]
            goal = drawer.form(names, drawer.number(0, 4), drawer.number(1, 5))
            for _ in range(drawer.number(0, 1)):
                goal = power_of(goal, 2)
            yield drawer, (tuple(drawer.form(names, drawer.number(0, 2), 2) for _ in range(drawer.number(0, 2))), goal)

    def test_never_both(self):
        seen = {"shown": 0, "fails": 0}
        for drawer, claim in self.claims():
            told = seek(claim)
            if told is None:
                continue
            seen[told[0]] += 1
            if told[0] == "fails":
                self.assertIs(fails_at(claim, told[1]), True)
                for paper in self.papers():
                    self.assertIs(shows(claim, paper), False)
                continue
            self.assertIs(shows(claim, told[1]), True)
            for _ in range(25):
                self.assertIs(fails_at(claim, drawer.place(("x", "y", "z"))), False)
        self.assertGreater(min(seen.values()), 60)

    def papers(self):
        line = ("line", number_form((1, 1)), number_form((1, 1)), (), (0, 1))
        step = ("step", ("given", 0))
        return (line, ("one",), step, ("never", ("given", 0)), ("cases", X, step, step), ("part", (1, 1), ("square", X), ("given", 0)))

    def test_books_never_have_both(self):
        for drawer, claim in self.claims():
            told = seek(claim)
            book = Book()
            book.say("a", claim)
            if told is None:
                self.assertEqual(book.find("a"), "open")
            elif told[0] == "shown":
                book.show("a", told[1])
                for _ in range(5):
                    with self.assertRaises(BadPlace):
                        book.fail("a", drawer.place(("x", "y", "z")))
                self.assertEqual(book.state("a"), "shown")
            else:
                with self.assertRaises(BadPaper):
                    book.show("a", ("step", ("given", 0)) if len(claim[0]) else ("step", ("square", X)))
                book.fail("a", told[1])
                self.assertEqual(book.where("a"), told[1])

    def test_second_degree_and_lines_are_always_told(self):
        drawer = Drawer("always")
        for _ in range(120):
            goal = drawer.form(("a", "b", "c", "d"), 2, 7)
            self.assertEqual(seek(((), goal))[0], "shown" if squares_of(goal)[0] == "squares" else "fails")
            line = (tuple(drawer.line(("x",)) for _ in range(drawer.number(0, 2))), drawer.form(("x",), 7, 5))
            told = seek(line)
            if line[0] or degree_of(line[1]) > 2:
                self.assertEqual(told[0], line_of(line)[0])
            self.assertIn(told[0], ("shown", "fails"))


class FromFormulas(unittest.TestCase):
    # x + y is twice root(x) times root(y) at least: the roots' difference, squared, is what's between.
    TEXT = "((x + y) - (2 * (root(x) * root(y))))"
    MORE = "(((x + y) + 1) - (2 * (root(x) * root(y))))"
    PAPER = ("step", ("sum", ("square", plus_of(unknown("qa"), weighed(unknown("qb"), (-1, 1)))), ("sum", ("given", 2), ("given", 5))))
    LEANING = ("step", ("sum", ("number", (1, 1)), ("known", "means", tuple(("given", number) for number in range(6)))))

    def filled(self):
        book = Book()
        book.say("means", claim_of(formula_in(self.TEXT)))
        book.say("more", claim_of(formula_in(self.MORE)))
        book.do([("show", "means", self.PAPER), ("show", "more", self.LEANING)])
        return book

    def test_through_claims_papers_and_a_book(self):
        formula = formula_in(self.TEXT)
        self.assertEqual(formula_text(formula), self.TEXT)
        claim = claim_of(formula)
        self.assertEqual(unknowns_in(claim), ["qa", "qb", "x", "y"])
        self.assertIs(shows(claim, self.PAPER), True)
        for x, y in ((0, 0), (1, 4), (9, 16), (1, 1), (4, 0)):
            place = (("x", (x, 9)), ("y", (y, 9)))
            place = tuple((name, lowest(*worth)) for name, worth in place)
            self.assertGreaterEqual(worth_of(formula, place)[0], 0)
            self.assertIs(fails_at(claim, lifted(formula, place)), False)
        book = self.filled()
        self.assertEqual((book.state("more"), book.leaning("means")), ("shown", ["more"]))
        one = book.one_paper("more")
        self.assertEqual(leans_on(one), [])
        self.assertIs(shows(book.claim("more"), one), True)
        self.assertEqual(claim_in(claim_text(claim)), claim)

    def test_made_papers(self):
        book = self.filled()
        claim, more = book.claim("means"), book.claim("more")
        pairs = (("qa", "qb"), ("qb", "qa"), ("x", "y"), ("y", "x"))
        one = book.one_paper("more")
        self.assertIs(shows(turned_claim(more, pairs), turned_paper(one, pairs)), True)
        self.assertEqual(turned_paper(turned_paper(one, pairs), pairs), one)
        self.assertEqual(one, joined([("means", claim, self.PAPER), ("more", more, self.LEANING)]))
        both = summed(self.PAPER, self.LEANING)
        self.assertIs(shows((claim[0], plus_of(claim[1], more[1])), both, known=(("means", claim),)), True)

    def test_change_and_undo(self):
        book = self.filled()
        ahead = book_paper(book)
        book.change("means", book.claim("means"))
        self.assertEqual((book.state("means"), book.state("more")), ("open", "open"))
        book.undo()
        self.assertIs(shows_book(book, ahead), True)
        # With a root taken away it fails.
        book.say("less", claim_of(formula_in("(root(x) - x)")))
        place = lifted(formula_in("(root(x) - x)"), (("x", (4, 1)),))
        book.fail("less", place)
        self.assertEqual(place_text(book.where("less")), "qa=2 x=4")
        self.assertEqual(len(book), 3)

    def test_at_the_desk(self):
        rows = (
            "say means (x + y) >= (2 * (root(x) * root(y)))", "text means", "find means", "say less root(x) >= x", "fail less qa=2 x=4", "place less",
            "say above root(x) >= x | x >= 0, 1 >= x", "fail above qa=1/2 x=1/4", "fail above qa=2 x=4", "names",
        )
        self.assertEqual(run("\n".join(rows)), [
            "ok", claim_text(claim_of(formula_in(self.TEXT))), "open", "ok", "ok", "qa=2 x=4", "ok", "refused BadPlace", "refused BadPlace", "above less means",
        ])

    def test_lists_all_the_way(self):
        formula = nested_list(formula_in(self.TEXT))
        claim = claim_of(formula)
        book = Book()
        book.say("means", nested_list(claim))
        book.show("means", nested_list(self.PAPER))
        book.say("more", nested_list(claim_of(nested_list(formula_in(self.MORE)))))
        book.show("more", nested_list(self.LEANING))
        self.assertEqual(book, self.filled())
        self.assertFalse(has_list(tuple(book_paper(book))))
        self.assertFalse(has_list(book.one_paper("more")))


if __name__ == "__main__":
    unittest.main()
