import unittest
from itertools import product

from squarepapers.errors import NoWorth
from squarepapers.forms import form_in, form_text, is_form, plus_of, power_of, times_of, unknown
from squarepapers.places import by_powers, is_place, moved, put_in, turned, worth_at

HALF = (1, 2)


def nested_list(thing):
    return [nested_list(part) for part in thing] if isinstance(thing, tuple) else thing


class IsPlace(unittest.TestCase):
    def test_places(self):
        for thing in ((), (("x", (0, 1)),), (("x", (1, 2)), ("y", (-7, 12))), (("abcdefgh", (10 ** 60, 7)), ("b", (1, 1)))):
            with self.subTest(thing):
                self.assertIs(is_place(thing), True)

    def test_no_places(self):
        for thing in (
            (("y", HALF), ("x", HALF)), (("x", HALF), ("x", HALF)), (("x", HALF), ("x", (1, 3))), (("x", (2, 4)),),
            (("x", (1, 0)),), (("x", (1, -2)),), (("x", (True, 2)),), (("x", 1),), (("x", None),), (("abcdefghi", HALF),),
            (("", HALF),), (("X", HALF),), (("x1", HALF),), ((1, HALF),), ((None, HALF),), (("x",),), (("x", HALF, HALF),),
            ("x", HALF), [], [("x", HALF)], (["x", HALF],), (("x", [1, 2]),), True, False, None, 0, "", "x", ("xy",), ((),),
            (("x", HALF), None), (("x", HALF), ("y", (0, 2))),
        ):
            with self.subTest(thing):
                self.assertIs(is_place(thing), False)


class WorthAt(unittest.TestCase):
    def test_by_hand(self):
        place = (("x", (1, 2)), ("y", (-2, 3)))
        for text, worth in (
            ("0", (0, 1)), ("5/7", (5, 7)), ("1*x", (1, 2)), ("3*x*y + -1*x^2", (-5, 4)), ("1 + -2*x", (0, 1)),
            ("1*x^2*y^3", (-2, 27)), ("1*x^24", (1, 2 ** 24)), ("1/3 + 1/2*x + 1*y", (-1, 12)),
        ):
            with self.subTest(text):
                self.assertEqual(worth_at(form_in(text), place), worth)

    def test_places_that_have_more(self):
        place = (("a", (9, 1)), ("x", (2, 1)), ("z", (9, 1)))
        self.assertEqual(worth_at(form_in("1 + 1*x^2"), place), (5, 1))
        self.assertEqual(worth_at((), place), (0, 1))

    def test_nought(self):
        self.assertEqual(worth_at(form_in("1*x + 1*x^2"), (("x", (0, 1)),)), (0, 1))
        self.assertEqual(worth_at(form_in("2"), ()), (2, 1))

    def test_no_worth_of_the_first_by_names(self):
        form = form_in("1*a*z + 1*c + 1*y^2")
        for names, lacking in ((("z", "y", "c"), "a"), (("a", "z"), "c"), (("a", "c", "y"), "z"), ((), "a"), (("x",), "a")):
            place = tuple((name, HALF) for name in sorted(names))
            with self.assertRaises(NoWorth) as caught:
                worth_at(form, place)
            self.assertEqual(caught.exception.name, lacking)
            self.assertIsInstance(caught.exception, KeyError)

    def test_no_worth_by_names_and_not_by_terms(self):
        # The first term lacks y, a later one c.
        with self.assertRaises(NoWorth) as caught:
            worth_at(form_in("1*b*y + 1*c"), (("b", HALF),))
        self.assertEqual(caught.exception.name, "c")

    def test_lists(self):
        self.assertEqual(worth_at(nested_list(form_in("1*x + 1*y^2")), [["x", [1, 2]], ["y", [1, 3]]]), (11, 18))
        self.assertEqual(worth_at(form=form_in("1*x"), place=[["x", [1, 2]]]), (1, 2))


class PutIn(unittest.TestCase):
    def put(self, text, **texts):
        return form_text(put_in(form_in(text), tuple((name, form_in(texts[name])) for name in sorted(texts))))

    def test_by_hand(self):
        self.assertEqual(self.put("1*x^2", x="1 + 1*y"), "1 + 2*y + 1*y^2")
        self.assertEqual(self.put("-1 + 1*x^2", x="1 + 1*y"), "2*y + 1*y^2")
        self.assertEqual(self.put("3*x*y + -1*x^2", x="1/2", y="1*x"), "-1/4 + 3/2*x")
        self.assertEqual(self.put("1*x*z + 1*y", x="1*y", z="-1"), "0")

    def test_all_at_once(self):
        self.assertEqual(self.put("1*x + 2*y^2", x="1*y", y="1*x"), "2*x^2 + 1*y")
        self.assertEqual(self.put("1*x*y^2*z^3", x="1*y", y="1*z", z="1*x"), "1*x^3*y*z^2")
        self.assertEqual(self.put("1*x", x="1*x + 1*y", y="7"), "1*x + 1*y")

    def test_unknowns_that_stay(self):
        self.assertEqual(self.put("1*x*y + 1*z", y="2"), "2*x + 1*z")
        self.assertEqual(self.put("1*x*y + 1*z", w="2"), "1*x*y + 1*z")
        self.assertEqual(self.put("1*x*y^2 + 1*y^5", x="1*y"), "1*y^3 + 1*y^5")

    def test_no_pairs_numbers_and_nought(self):
        form = form_in("1 + 3*x*y")
        self.assertEqual(put_in(form, ()), form)
        self.assertEqual(self.put("0", x="5"), "0")
        self.assertEqual(self.put("7", x="5"), "7")
        self.assertEqual(self.put("1 + 3*x*y", x="0"), "1")
        self.assertEqual(self.put("-1 + 1*x^3", x="1"), "0")

    def test_great_powers(self):
        self.assertEqual(self.put("1*x^24", x="1*y"), "1*y^24")
        self.assertEqual(put_in(form_in("1*x^8"), (("x", form_in("1 + 1*y")),)), power_of(form_in("1 + 1*y"), 8))

    def test_worths_agree(self):
        form = form_in("1/2 + 3*x*y + -1*x^2 + 1*y^3*z")
        inner = {"x": form_in("1*a + -1*y"), "y": form_in("1/3 + 1*x*z")}
        told = put_in(form, tuple(sorted(inner.items())))
        self.assertTrue(is_form(told))
        worths = ((0, 1), (1, 1), (-2, 3))
        for a, x, y, z in product(worths, repeat=4):
            place = (("a", a), ("x", x), ("y", y), ("z", z))
            put = (("x", worth_at(inner["x"], place)), ("y", worth_at(inner["y"], place)), ("z", z))
            self.assertEqual(worth_at(told, place), worth_at(form, put))

    def test_lists(self):
        form = form_in("1*x*y + 1*x^2")
        pairs = (("x", form_in("1 + 1*y")),)
        handed = nested_list(form), nested_list(pairs)
        self.assertEqual(put_in(*handed), put_in(form, pairs))
        self.assertEqual(handed, (nested_list(form), nested_list(pairs)))
        self.assertEqual(put_in(nested_list(form), []), form)
        self.assertEqual(put_in(form=form, pairs=[]), form)


class Turned(unittest.TestCase):
    def turn(self, text, *pairs):
        return form_text(turned(form_in(text), pairs))

    def test_by_hand(self):
        self.assertEqual(self.turn("1*x^2 + 1*y", ("x", "z")), "1*y + 1*z^2")
        self.assertEqual(self.turn("1*x^2 + 1*y", ("x", "y"), ("y", "x")), "1*x + 1*y^2")
        self.assertEqual(self.turn("1*x*y^2*z^3", ("x", "y"), ("y", "z"), ("z", "x")), "1*x^3*y*z^2")
        self.assertEqual(self.turn("1*x + 1*y", ("a", "b")), "1*x + 1*y")
        self.assertEqual(self.turn("1*x + 1*y", ("x", "x")), "1*x + 1*y")
        self.assertEqual(self.turn("0", ("x", "y")), "0")
        self.assertEqual(self.turn("5 + 1*x"), "5 + 1*x")

    def test_several_to_one(self):
        self.assertEqual(self.turn("1*x + 1*y + 1*z", ("x", "a"), ("y", "a"), ("z", "a")), "3*a")
        self.assertEqual(self.turn("1*x + -1*y", ("x", "y")), "0")
        self.assertEqual(self.turn("1*x^2*y^3", ("y", "x")), "1*x^5")
        self.assertEqual(self.turn("1*x*y + 1*x^2 + 1*y^2", ("x", "z"), ("y", "z")), "3*z^2")

    def test_as_put_in(self):
        form = form_in("1/2 + 3*x*y + -1*x^2 + 1*y^3*z")
        for pairs in ((("x", "y"), ("y", "x")), (("x", "z"),), (("x", "b"), ("y", "a"), ("z", "b"))):
            told = turned(form, pairs)
            self.assertTrue(is_form(told))
            self.assertEqual(told, put_in(form, tuple((old, unknown(new)) for old, new in pairs)))

    def test_lists(self):
        self.assertEqual(turned(nested_list(form_in("1*x^2 + 1*y")), [["x", "z"]]), form_in("1*y + 1*z^2"))
        self.assertEqual(turned(nested_list(form_in("1*x^2 + 1*y")), []), form_in("1*x^2 + 1*y"))
        self.assertEqual(turned(form=(), pairs=()), ())


class ByPowers(unittest.TestCase):
    def told(self, text, name):
        return [form_text(form) for form in by_powers(form_in(text), name)]

    def test_by_hand(self):
        self.assertEqual(by_powers((), "x"), [])
        self.assertEqual(self.told("5", "x"), ["5"])
        self.assertEqual(self.told("1*y + 2*z^2", "x"), ["1*y + 2*z^2"])
        self.assertEqual(self.told("1*x", "x"), ["0", "1"])
        self.assertEqual(self.told("1*x^3", "x"), ["0", "0", "0", "1"])
        self.assertEqual(self.told("1 + 2*x + 3*x^2*y + 4*x^2*z + 5*y", "x"), ["1 + 5*y", "2", "3*y + 4*z"])
        self.assertEqual(self.told("1*a*x^2 + 1*a^2*b + 1*b", "a"), ["1*b", "1*x^2", "1*b"])

    def test_terms_rise_without_the_unknown(self):
        # Without x the terms stand the other way about than with it.
        self.assertEqual(by_powers(form_in("1*b*c*x + 2*b*x"), "x"), [(), form_in("2*b + 1*b*c")])
        self.assertEqual(by_powers(form_in("2*a*b + 1*a*c"), "a"), [(), form_in("2*b + 1*c")])

    def test_sums_to_the_form(self):
        form = form_in("1/2 + 3*x*y + -1*x^2 + 1*y^3*z + 1*z")
        for name in ("x", "y", "z", "w"):
            total = ()
            forms = by_powers(form, name)
            self.assertNotEqual(forms[-1], ())
            for power, inner in enumerate(forms):
                self.assertTrue(is_form(inner))
                total = plus_of(total, times_of(inner, power_of(unknown(name), power)))
            self.assertEqual(total, form)

    def test_lists(self):
        self.assertEqual(by_powers(nested_list(form_in("1*x + 1*y")), "x"), [form_in("1*y"), form_in("1")])
        self.assertEqual(by_powers([], "x"), [])
        told = by_powers(form_in("1*x"), "x")
        told.clear()
        self.assertEqual(by_powers(form=form_in("1*x"), name="x"), [(), form_in("1")])
        self.assertIsNot(by_powers((), "x"), by_powers((), "x"))


class Moved(unittest.TestCase):
    def test_by_hand(self):
        place = (("x", (1, 2)), ("y", (0, 1)))
        self.assertEqual(moved(place, (("x", (1, 3)), ("y", (-1, 1))), (3, 1)), (("x", (3, 2)), ("y", (-3, 1))))
        self.assertEqual(moved(place, (("x", (1, 3)), ("y", (-1, 1))), (0, 1)), place)
        self.assertEqual(moved(place, (("x", (1, 1)), ("y", (1, 1))), (-1, 2)), (("x", (0, 1)), ("y", (-1, 2))))

    def test_ways_that_lack_some_or_have_more(self):
        place = (("x", (1, 2)), ("y", (0, 1)))
        self.assertEqual(moved(place, (("y", (2, 1)),), (1, 2)), (("x", (1, 2)), ("y", (1, 1))))
        self.assertEqual(moved(place, (), (5, 1)), place)
        self.assertEqual(moved(place, (("a", (1, 1)), ("z", (1, 1))), (5, 1)), place)
        self.assertEqual(moved((), (("a", (1, 1)),), (5, 1)), ())

    def test_lists(self):
        place, way = [["x", [1, 2]], ["y", [1, 1]]], [["x", [1, 3]]]
        self.assertEqual(moved(place, way, [3, 1]), (("x", (3, 2)), ("y", (1, 1))))
        self.assertEqual(moved(place=place, way=[], fraction=[3, 1]), (("x", (1, 2)), ("y", (1, 1))))
        self.assertEqual((place, way), ([["x", [1, 2]], ["y", [1, 1]]], [["x", [1, 3]]]))


if __name__ == "__main__":
    unittest.main()
