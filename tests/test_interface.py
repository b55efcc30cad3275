"""What the interface lists is defined where it lists it, with the arguments told."""
import ast
import importlib
import inspect
import unittest
from pathlib import Path

PACKAGE = Path(__file__).resolve().parent.parent / "squarepapers"

FUNCTIONS = {
    "fractions": (
        "is_fraction(thing)", "lowest(top, bottom)", "plus(one, other)", "less(one, other)", "times(one, other)",
        "over(one, other)", "sign_of(fraction)", "compared(one, other)", "root_of(fraction)", "fraction_text(fraction)",
        "fraction_in(text)",
    ),
    "forms": (
        "is_form(thing)", "number_form(fraction)", "unknown(name)", "plus_of(one, other)", "less_of(one, other)",
        "times_of(one, other)", "weighed(form, fraction)", "power_of(form, many)", "names_of(form)", "degree_of(form)",
        "number_of(form)", "form_text(form)", "form_in(text)",
    ),
    "places": (
        "is_place(thing)", "worth_at(form, place)", "put_in(form, pairs)", "turned(form, pairs)",
        "by_powers(form, name)", "moved(place, way, fraction)",
    ),
    "formulas": ("is_formula(thing)", "worth_of(formula, place)", "unknowns_of(formula)"),
    "formulatexts": ("formula_text(formula)", "formula_in(text)"),
    "brought": ("parts_of(formula)", "splits_of(formula)", "brought(formula)", "lifted(formula, place)"),
    "squares": ("squares_of(form)", "shows_squares(form, thing)"),
    "alike": ("noughts_of(form)", "shows_noughts(form, thing)"),
    "floors": ("floor_of(form)", "shows_floor(form, thing)"),
    "lines": ("lead_of(form)", "divided(one, other)", "slope_of(form)", "common_of(one, other)", "free_parts(form)"),
    "chains": ("chain_of(form)", "roots_between(form, low, high)"),
    "roots": ("parted(form, *, width=(1, 1000))", "shows_parted(form, thing, *, width=(1, 1000))"),
    "claims": (
        "is_claim(thing)", "fails_at(claim, place)", "unknowns_in(claim)", "claim_of(formula, *, under=())",
        "stretch_of(claim)", "line_of(claim)", "line_noughts(claim, *, width=(1, 1000))",
    ),
    "steps": ("is_step(thing)", "told_by(step, given, *, known=(), first=())"),
    "papers": ("is_paper(thing)", "shows(claim, thing, *, known=())", "leans_on(paper)"),
    "makings": ("turned_claim(claim, pairs)", "turned_paper(paper, pairs)", "summed(one, other)", "joined(papers)"),
    "seeking": ("seek(claim)",),
    "book": ("book_paper(book)", "shows_book(book, thing)"),
    "claimtexts": ("claim_text(claim)", "claim_in(text)", "place_text(place)", "place_in(text)"),
    "desk": ("run(text)",),
}
METHODS = (
    "say(self, name, claim)", "show(self, name, paper)", "fail(self, name, place)", "find(self, name)",
    "change(self, name, claim)", "drop(self, name)", "do(self, deeds)", "undo(self)", "all_names(self)",
    "claim(self, name)", "state(self, name)", "paper(self, name)", "where(self, name)", "leans(self, name)",
    "all_leans(self, name)", "leaning(self, name)", "one_paper(self, name)", "deeds(self)", "as_of(self, many)",
    "twin(self)", "calls(self, *, first=0)", "__eq__(self, other)", "__len__(self)", "__repr__(self)",
)


class Interface(unittest.TestCase):
    def test_arguments(self):
        for file, heads in FUNCTIONS.items():
            module = importlib.import_module("squarepapers." + file)
            for head in heads:
                with self.subTest(head):
                    name = head.partition("(")[0]
                    self.assertEqual(name + str(inspect.signature(getattr(module, name))), head)

    def test_defined_in_its_file(self):
        for file, heads in FUNCTIONS.items():
            tree = ast.parse((PACKAGE / (file + ".py")).read_text())
            defined = {node.name for node in tree.body if isinstance(node, ast.FunctionDef)}
            self.assertLessEqual({head.partition("(")[0] for head in heads}, defined)

    def test_book(self):
        tree = ast.parse((PACKAGE / "book.py").read_text())
        books = [node for node in tree.body if isinstance(node, ast.ClassDef) and node.name == "Book"]
        self.assertEqual(len(books), 1)
        defined = {node.name for node in books[0].body if isinstance(node, ast.FunctionDef)}
        made = importlib.import_module("squarepapers.book").Book
        self.assertEqual(str(inspect.signature(made)), "()")
        for head in METHODS:
            with self.subTest(head):
                name = head.partition("(")[0]
                self.assertIn(name, defined)
                self.assertEqual(name + str(inspect.signature(getattr(made, name))), head)


if __name__ == "__main__":
    unittest.main()
