import unittest

from drawing import Drawer
from squarepapers.book import Book
from squarepapers.claims import claim_of
from squarepapers.claimtexts import claim_in, claim_text, place_in, place_text
from squarepapers.desk import run
from squarepapers.errors import BadPlace, BadRow, Known, NoClaim
from squarepapers.formulatexts import formula_in


def sheet(*rows):
    return "\n".join(rows)


class Answers(unittest.TestCase):
    def check(self, *pairs):
        """Checks the answers of rows, one behind the other on one sheet."""
        rows = [row for row, answer in pairs]
        self.assertEqual(list(zip(rows, run(sheet(*rows)))), list(pairs))

    def test_a_day(self):
        self.check(
            ("names", "-"), ("undo", "no"), ("say a x^2 >= 0", "ok"), ("names", "a"), ("state a", "open"), ("text a", "1*x^2 >= 0"), ("place a", "-"),
            ("leaning a", "-"), ("find a", "shown"), ("state a", "shown"), ("place a", "-"), ("say b x >= 1", "ok"), ("text b", "-1 + 1*x >= 0"), ("names", "a b"),
            ("find b", "failed"), ("state b", "failed"), ("fail b x=1/2", "ok"), ("place b", "x=1/2"), ("undo", "yes"), ("undo", "yes"), ("state b", "open"),
            ("place b", "-"), ("undo", "yes"), ("names", "a"), ("claim c 1*x*y >= 0 where 1*x >= 0, 1*y >= 0", "ok"), ("find c", "open"),
            ("text c", "1*x*y >= 0 where 1*x >= 0, 1*y >= 0"), ("names", "a c"), ("drop a", "ok"), ("names", "c"), ("undo", "yes"), ("state a", "shown"),
            ("change a (x * x) >= (x + 1)", "ok"), ("state a", "open"), ("text a", "-1 + -1*x + 1*x^2 >= 0"), ("find a", "failed"),
        )

    def test_refused(self):
        self.check(
            ("find a", "refused NoClaim"), ("drop a", "refused NoClaim"), ("state a", "refused NoClaim"), ("text a", "refused NoClaim"), ("place a", "refused NoClaim"),
            ("leaning a", "refused NoClaim"), ("change a x >= 0", "refused NoClaim"), ("fail a -", "refused NoClaim"), ("undo", "no"), ("say a x >= 0", "ok"),
            ("say a x >= 0", "refused Known"), ("claim a 1*x >= 0", "refused Known"), ("fail a x=1", "refused BadPlace"), ("fail a -", "refused BadPlace"),
            ("fail a y=-1", "refused BadPlace"), ("fail a x=-1 y=7", "ok"), ("place a", "x=-1 y=7"), ("undo", "yes"), ("undo", "yes"), ("undo", "no"), ("names", "-"),
        )

    def test_places_of_no_unknown(self):
        self.check(("say a 0 >= 1", "ok"), ("fail a -", "ok"), ("state a", "failed"), ("place a", "-"), ("text a", "-1 >= 0"))

    def test_formulas_under_others(self):
        for row, text in (
            ("x >= 0", "1*x >= 0"), ("x >= y", "1*x + -1*y >= 0"), ("0 >= x", "-1*x >= 0"), ("x >= 0 | y >= 0", "1*x >= 0 where 1*y >= 0"),
            ("x >= 0 | y >= 1, z >= x", "1*x >= 0 where -1 + 1*y >= 0, -1*x + 1*z >= 0"), ("x >= 0 | y >= 0, y >= 0", "1*x >= 0 where 1*y >= 0, 1*y >= 0"),
            ("(1 / x) >= 0", "1*x^3 >= 0"), ("x >= (1 / y)", "1*x*y^4 + -1*y^3 >= 0"), ("((x + y) / 2) >= x", None), ("x^3 >= (2 * x^2)", "-2*x^2 + 1*x^3 >= 0"),
            ("x >= 0 | (1 / x) >= 0, x^0 >= -1/2", "1*x >= 0 where 1*x^3 >= 0, 3/2 >= 0"),
            ("root(x) >= 1", "-1 + 1*qa >= 0 where 1*qa >= 0, 1*qa^2 + -1*x >= 0, -1*qa^2 + 1*x >= 0"),
            (
                "root(x) >= 0 | root(y) >= root(x)",
                "1*qb >= 0 where 1*qa >= 0, 1*qa^2 + -1*y >= 0, -1*qa^2 + 1*y >= 0, 1*qb >= 0, 1*qb^2 + -1*x >= 0, -1*qb^2 + 1*x >= 0, 1*qa + -1*qb >= 0",
            ),
            ("root((x / y))^2 >= root(2)", None), ("(x - (y * z)) >= ((x / y)^2 - root((x + root(y))))", None), ("(2)^3 >= (x^2)^2", "8 + -1*x^4 >= 0"),
        ):
            with self.subTest(row):
                front, _, behind = row.partition(" | ")
                claims = []
                for part in [front] + (behind.split(", ") if behind else []):
                    one, other = part.split(" >= ")
                    claims.append(("less", formula_in(one), formula_in(other)))
                told = claim_text(claim_of(claims[0], under=claims[1:]))
                if text is not None:
                    self.assertEqual(told, text)
                self.check(("say a " + row, "ok"), ("text a", told), ("claim b " + told, "ok"), ("text b", told), ("change b " + row, "ok"), ("text b", told))

    def test_names_and_leaning(self):
        self.check(
            ("say root x >= 0", "ok"), ("say where x >= 0", "ok"), ("say ab x >= 0", "ok"), ("say a x >= 0", "ok"), ("say abcdefgh x >= 0", "ok"), ("say q x >= 0", "ok"),
            ("names", "a ab abcdefgh q root where"), ("leaning root", "-"), ("drop where", "ok"), ("names", "a ab abcdefgh q root"),
        )

    def test_leaning_is_dash_where_papers_are_sought(self):
        # What the search shows leans on nothing.
        self.check(("say a x^2 >= 0", "ok"), ("find a", "shown"), ("say b x^2 >= 0", "ok"), ("find b", "shown"), ("leaning a", "-"), ("leaning b", "-"))

    def test_told_is_a_list_of_its_own(self):
        text = sheet("say a x >= 0", "names")
        one, other = run(text=text), run(text)
        self.assertIsInstance(one, list)
        self.assertEqual(one, ["ok", "a"])
        one.clear()
        self.assertEqual((other, run(text)), (["ok", "a"], ["ok", "a"]))

    def test_sheets_are_apart(self):
        self.assertEqual(run("say a x >= 0"), ["ok"])
        self.assertEqual(run("names"), ["-"])


class BadRows(unittest.TestCase):
    GOOD = (
        "undo", "names", "find a", "drop a", "state a", "text a", "place a", "leaning a", "fail a x=1/2 y=3", "fail a -", "claim a 1*x >= 0",
        "claim a 1*x >= 0 where 1*y >= 0, 1*z >= 0", "say a x >= 0", "say a (x + 1) >= root(y) | y >= 0, z >= (y / x)", "change a x >= 0 | y >= 0",
    )
    BAD = (
        "", " ", "undo ", " undo", "undo a", "names ", "names a", "Undo", "undone", "redo", "find", "find ", "find A", "find a ", "find  a", " find a", "find a b", "find a1",
        "find abcdefghi", "find -", "state", "state a b", "state a ", "text", "text a b", "place", "place a x=1", "leaning", "leaning a b", "drop", "drop a b", "drop a ",
        "show a", "paper a", "do", "say", "say a", "say a ", "say a x", "say a x >=", "say a x >= ", "say a x > 0", "say a x>=0", "say a  x >= 0", "say  a x >= 0", "say A x >= 0",
        "say a x >= 0 ", " say a x >= 0", "say a x  >= 0", "say a x >=  0", "say a >= 0", "say a  >= 0", "say x >= 0", "say abcdefghi x >= 0", "say a x >= 0 >= 0", "say a x + 1 >= 0",
        "say a (x+1) >= 0", "say a 2/4 >= 0", "say a (x) >= 0", "say a x >= 0 |", "say a x >= 0 | ", "say a x >= 0 | y", "say a x >= 0 | y >= 0,", "say a x >= 0 | y >= 0, ",
        "say a x >= 0 | y >= 0,z >= 0", "say a x >= 0 | y >= 0 , z >= 0", "say a x >= 0 | y >= 0 | z >= 0", "say a x >= 0, y >= 0", "say a x >= 0|y >= 0", "say a | y >= 0",
        "say a x >= 0 | , y >= 0", "say a x >= 0  | y >= 0", "say a x >= 0 |  y >= 0", "say a 1*x >= 0", "say a x^7 >= 0", "say a root x >= 0", "say a x >= 0 where y >= 0",
        "change", "change a", "change a x", "change a x >= 0 |", "change a 1*x >= 0", "claim", "claim a", "claim a ", "claim a x >= 0", "claim a 1*x", "claim a 1*x >= 1",
        "claim a 1*x >= 0 | 1*y >= 0", "claim a  1*x >= 0", "claim a 1*x >= 0 ", "claim A 1*x >= 0", "claim a 1*x >= 0 where", "claim a 1*x >= 0 where " + ", ".join(["0 >= 0"] * 31),
        "fail", "fail a", "fail a ", "fail a x", "fail a x=", "fail a x=1 ", "fail a  x=1", "fail a x=1  y=1", "fail a y=1 x=1", "fail a x=2/4", "fail a --", "fail a x=1,y=1", "fail x=1",
        "say a x >= 0\t", "SAY a x >= 0", "say\ta x >= 0", "say a (1 / 0) >= ", "say a (x * y >= 0", "say a x * y) >= 0", "find\ta",
    )

    def refused(self, at, *rows):
        with self.assertRaises(BadRow) as caught:
            run(sheet(*rows))
        self.assertEqual(caught.exception.row, at)
        self.assertIsInstance(caught.exception, ValueError)

    def test_good_rows(self):
        for row in self.GOOD:
            self.assertEqual(len(run(row)), 1)
        self.assertEqual(len(run(sheet(*self.GOOD))), len(self.GOOD))

    def test_bad_rows(self):
        for row in self.BAD:
            with self.subTest(row):
                self.refused(0, row)
                self.refused(0, row, "names")
                self.refused(2, "say a x >= 0", "find z", row)
                self.refused(1, "names", row, row, "nothing", "names")

    def test_bare_texts_and_line_feeds_at_the_ends(self):
        self.refused(0)
        self.refused(0, "", "")
        self.refused(1, "names", "")
        self.refused(0, "", "names")
        self.refused(1, "names", "", "names")

    def test_rows_with_one_sign_otherwise(self):
        # What is refused is refused as row 1; what is not is a row that is written so.
        signs = [chr(code) for code in range(32, 127) if chr(code) != "%"]
        for row in self.GOOD:
            for at in range(len(row) + 1):
                for other in [row[:at] + row[at + 1:]] + [row[:at] + sign + row[at:] for sign in signs] + [row[:at] + sign + row[at + 1:] for sign in signs[::7]]:
                    try:
                        self.assertEqual(len(run("names\n" + other)), 2)
                    except BadRow as refusal:
                        self.assertEqual(refusal.row, 1)
                    else:
                        self.assertEqual(other, written_anew(other))


def written_anew(row):
    """The row, written from what its words are read as."""
    word, _, rest = row.partition(" ")
    if word in ("undo", "names"):
        return word
    name, _, tail = rest.partition(" ")
    if word == "fail":
        tail = place_text(place_in(tail))
    elif word == "claim":
        tail = claim_text(claim_in(tail))
    elif word not in ("say", "change"):
        return f"{word} {name}"
    return f"{word} {name} {tail}"


class Sheets(unittest.TestCase):
    NAMES = "abcdefghijkl"
    DIFFERENCES = ("x >= 0", "x^2 >= 0", "(x * y) >= 0", "(x + 1) >= root(y)", "(1 / x) >= 0", "x >= (y / 2)", "-1 >= x^2", "(x^2 + y^2) >= (2 * (x * y))", "1/2 >= 0")
    PLACES = ("-", "x=0", "x=-1", "x=-1 y=1", "x=1/2 y=-1", "x=-1 y=0 z=5")

    def drawn(self, drawer):
        name = drawer.chance.choice(self.NAMES)
        word = drawer.chance.choice(("say",) * 6 + ("claim", "change", "find", "find", "find", "fail", "fail", "drop", "undo", "undo", "state", "text", "place", "leaning", "names"))
        if word in ("undo", "names"):
            return word
        if word == "claim":
            return f"claim {name} " + drawer.chance.choice(("1*x >= 0 where 1*x >= 0", "0 >= 0", "-1 + 1*x^2 >= 0", "1*x*y >= 0 where 1*x >= 0, 1*y >= 0"))
        if word == "fail":
            return f"fail {name} " + drawer.chance.choice(self.PLACES)
        if word not in ("say", "change"):
            return f"{word} {name}"
        under = ", ".join(drawer.chance.choice(self.DIFFERENCES) for _ in range(drawer.number(0, 2)))
        return f"{word} {name} {drawer.chance.choice(self.DIFFERENCES)}" + (" | " + under if under else "")

    def answer(self, book, row):
        word, *words = row.split(" ")
        try:
            if word in ("say", "change", "claim"):
                tail = " ".join(words[1:])
                claim = claim_in(tail) if word == "claim" else self.claim(tail)
                told = book.change(words[0], claim) if word == "change" else book.say(words[0], claim)
            elif word == "fail":
                told = book.fail(words[0], place_in(" ".join(words[1:])))
            elif word == "undo":
                return {True: "yes", False: "no"}[book.undo()]
            elif word == "names":
                return " ".join(book.all_names()) or "-"
            elif word == "place":
                place = book.where(words[0])
                return "-" if place is None else place_text(place)
            elif word == "leaning":
                return " ".join(book.leaning(words[0])) or "-"
            elif word == "text":
                return claim_text(book.claim(words[0]))
            else:
                told = getattr(book, word)(words[0])
            return "ok" if told is None else told
        except (Known, NoClaim, BadPlace) as refusal:
            return "refused " + refusal.__class__.__name__

    def claim(self, text):
        front, _, behind = text.partition(" | ")
        pairs = [part.split(" >= ") for part in [front] + (behind.split(", ") if behind else [])]
        formulas = [("less", formula_in(one), formula_in(other)) for one, other in pairs]
        return claim_of(formulas[0], under=formulas[1:])

    def test_sheets_of_120_rows(self):
        told = set()
        for seed in range(8):
            drawer = Drawer(f"sheet {seed}")
            rows = [self.drawn(drawer) for _ in range(120)]
            book = Book()
            answers = run(sheet(*rows))
            self.assertEqual(answers, [self.answer(book, row) for row in rows])
            self.assertTrue(all(isinstance(answer, str) for answer in answers))
            told |= {answer for answer in answers if " " not in answer or "refused" in answer}
        self.assertLessEqual({"ok", "yes", "shown", "failed", "open", "-", "refused Known", "refused NoClaim", "refused BadPlace"}, told)


if __name__ == "__main__":
    unittest.main()
