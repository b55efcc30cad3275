import unittest

from drawing import Drawer, form_from, has_list, nested_list
from squarepapers.claims import is_claim
from squarepapers.claimtexts import claim_in, claim_text, place_in, place_text
from squarepapers.errors import BadText
from squarepapers.fractions import lowest
from squarepapers.places import is_place

X, Y = form_from("1*x"), form_from("1*y")
SIGNS = [chr(code) for code in range(32, 127) if chr(code) != "%"] + ["\n"]


class TextCase(unittest.TestCase):
    def refused(self, reading, text):
        with self.assertRaises(BadText) as caught:
            reading(text)
        self.assertEqual(caught.exception.spot, 0)
        self.assertIsInstance(caught.exception, ValueError)

    def near(self, text):
        """Texts with one sign or word otherwise, at any place."""
        for at in range(len(text) + 1):
            yield text[:at] + text[at + 1:]
            for sign in SIGNS:
                yield text[:at] + sign + text[at:]
                yield text[:at] + sign + text[at + 1:]
        words = text.split(" ")
        for at in range(len(words)):
            for word in ([], [words[at]] * 2, ["where"], [">="], ["0"], [">=", "0"], ["-"], [""]):
                yield " ".join(words[:at] + word + words[at + 1:])
                yield " ".join(words[:at] + word + words[at:])

    def check_near(self, text, reading, writing, fits):
        """Texts near by are refused, or told is what has just that text."""
        seen = {True: 0, False: 0}
        for other in self.near(text):
            try:
                told = reading(other)
            except BadText as refusal:
                self.assertEqual(refusal.spot, 0)
                seen[False] += 1
            else:
                self.assertIs(fits(told), True)
                self.assertEqual(writing(told), other)
                seen[True] += 1
        self.assertGreater(min(seen.values()), 3)


class ClaimTexts(TextCase):
    EXAMPLES = (
        (((), ()), "0 >= 0"), (((), X), "1*x >= 0"), (((), form_from("-3/2*x^2*y + 5")), "5 + -3/2*x^2*y >= 0"),
        (((X,), Y), "1*y >= 0 where 1*x >= 0"), (((X, Y), ()), "0 >= 0 where 1*x >= 0, 1*y >= 0"),
        (((Y, X, Y, ()), form_from("-1/2")), "-1/2 >= 0 where 1*y >= 0, 1*x >= 0, 1*y >= 0, 0 >= 0"),
        (((form_from("1*where + 1"),), form_from("-1*where^2")), "-1*where^2 >= 0 where 1 + 1*where >= 0"),
        (((X,) * 30, X), "1*x >= 0 where " + ", ".join(["1*x >= 0"] * 30)),
        (((), form_from("1*x^24*y^24 + 1*a*b*c*d*e*f*g")), "1*a*b*c*d*e*f*g + 1*x^24*y^24 >= 0"),
    )

    def test_both_ways(self):
        for claim, text in self.EXAMPLES:
            with self.subTest(text):
                self.assertEqual(claim_text(claim), text)
                self.assertEqual(claim_in(text), claim)
                self.assertIs(is_claim(claim_in(text)), True)
                self.assertFalse(has_list(claim_in(text)))

    def test_drawn(self):
        drawer = Drawer("claim texts")
        for _ in range(200):
            forms = [drawer.form(("x", "yy", "z"), drawer.number(0, 4), drawer.number(0, 5)) for _ in range(drawer.number(1, 5))]
            claim = (tuple(forms[1:]), forms[0])
            self.assertEqual(claim_in(claim_text(claim)), claim)

    def test_refused(self):
        for text in (
            "", " ", "0", "1*x", "1*x >=", "1*x >= ", "1*x >= 1", "1*x > 0", "1*x>=0", "1*x >=0", "1*x>= 0", "1*x >= 00", "1*x >= -0", "1*x <= 0", "0 <= 1*x",
            " >= 0", ">= 0", "x >= 0", "1*x >= 0 ", " 1*x >= 0", "1*x  >= 0", "1*x >=  0", "1*x >= 0 where", "1*x >= 0 where ", "1*x >= 0 where  1*y >= 0",
            "1*x >= 0 where 1*y", "1*x >= 0 where 1*y >= 0,", "1*x >= 0 where 1*y >= 0, ", "1*x >= 0 where 1*y >= 0,1*z >= 0", "1*x >= 0 where 1*y >= 0 , 1*z >= 0",
            "1*x >= 0 where 1*y >= 0,  1*z >= 0", "1*x >= 0 where , 1*y >= 0", "1*x >= 0, 1*y >= 0", "1*x >= 0 where 1*y >= 0 where 1*z >= 0",
            "1*x >= 0 where 1*y, 1*z >= 0", "1*x >= 0 Where 1*y >= 0", "1*x where 1*y >= 0", " where 1*x >= 0", "where 1*x >= 0", "1*x >= 0\n", "1*x >= 0 where 1*y >= 0\n",
            "1*x^25 >= 0", "2/4*x >= 0", "1*x*x >= 0", "1*y*x >= 0", "1*y + 1*x >= 0", "0*x >= 0", "1*x + 0 >= 0", "1*x^1 >= 0", "+1*x >= 0", "1*x >= 0 >= 0",
            "1*x >= 0 where " + ", ".join(["1*x >= 0"] * 31), "1*abcdefghi >= 0", "1*X >= 0", "(x - 1) >= 0", "1*x >= 0 where 0", "1*x >= 1*y", "-", "1*x >= 0 | 1*y >= 0",
        ):
            with self.subTest(text):
                self.refused(claim_in, text)

    def test_near(self):
        for claim, text in self.EXAMPLES[1:6]:
            self.check_near(text, claim_in, claim_text, is_claim)

    def test_lists(self):
        for claim, text in self.EXAMPLES:
            handed = nested_list(claim)
            self.assertEqual(claim_text(claim=handed), text)
            self.assertEqual(handed, nested_list(claim))
            self.assertEqual(claim_in(text=text), claim)

    def test_great(self):
        claim = ((form_from(f"{10 ** 12}/{10 ** 12 - 1}*x"),), ((((), lowest(10 ** 5000 + 1, 3)),)[0],))
        self.assertEqual(claim_in(claim_text(claim)), claim)


class PlaceTexts(TextCase):
    EXAMPLES = (
        ((), "-"), ((("x", (1, 2)),), "x=1/2"), ((("x", (1, 2)), ("y", (3, 1))), "x=1/2 y=3"), ((("a", (0, 1)), ("ab", (-7, 3)), ("b", (-1, 1))), "a=0 ab=-7/3 b=-1"),
        ((("abcdefgh", (10 ** 12, 10 ** 12 - 1)),), f"abcdefgh={10 ** 12}/{10 ** 12 - 1}"),
    )

    def test_both_ways(self):
        for place, text in self.EXAMPLES:
            self.assertEqual(place_text(place), text)
            self.assertEqual(place_in(text), place)

    def test_drawn(self):
        drawer = Drawer("place texts")
        for _ in range(100):
            place = drawer.place(drawer.chance.sample(("x", "y", "zz", "a", "root", "q"), drawer.number(0, 6)))
            self.assertEqual(place_in(place_text(place)), place)

    def test_refused(self):
        for text in (
            "", " ", "--", "- ", " -", "x", "x=", "=", "=1", "x=1 ", " x=1", "x=1  y=2", "x=1, y=2", "x=1,y=2", "y=1 x=2", "x=1 x=1", "x=1 x=2", "X=1", "x1=1", "x=1/1",
            "x=2/4", "x=-0", "x=01", "x=+1", "x=1/0", "x=1/-2", "x =1", "x= 1", "x==1", "x=1=1", "x=y", "x=1 -", "- x=1", "abcdefghi=1", "x=1\n", "x=1\ny=2", "x:1", "x=1.5", "x=1/2/3",
            "0", "1", "x=- 1", "x=1 y", "x y=1",
        ):
            with self.subTest(text):
                self.refused(place_in, text)

    def test_near(self):
        for place, text in self.EXAMPLES[1:4]:
            self.check_near(text, place_in, place_text, is_place)
        for text in self.near("-"):
            if text != "-":
                self.refused(place_in, text)

    def test_lists(self):
        for place, text in self.EXAMPLES:
            handed = nested_list(place)
            self.assertEqual(place_text(place=handed), text)
            self.assertEqual(handed, nested_list(place))
            self.assertEqual(place_in(text=text), place)


if __name__ == "__main__":
    unittest.main()
