import itertools
import unittest
from fractions import Fraction

from drawing import Drawer, form_from, has_list, nested_list
from squarepapers.claims import fails_at, line_of, unknowns_in
from squarepapers.forms import (
    degree_of, is_form, names_of, number_form, number_of, plus_of, power_of, times_of, unknown, weighed,
)
from squarepapers.papers import is_paper, leans_on, shows
from squarepapers.places import is_place
from squarepapers.seeking import seek
from squarepapers.squares import squares_of
from squarepapers.words import TRIES


def claim(goal, *conditions):
    """The claim whose goal and conditions have these texts, 0 for nought."""
    forms = [() if text == "0" else form_from(text) for text in (goal, *conditions)]
    return (tuple(forms[1:]), forms[0])


def forms_in(thing):
    """All forms somewhere in thing, but nought."""
    if is_form(thing) and thing:
        return [thing]
    return [form for part in thing for form in forms_in(part)] if isinstance(thing, tuple) else []


def by_ways(whole):
    """The number of the first way that tells something of the claim, and the word told, each way gone by itself."""
    conditions, goal = whole
    numbers = [number_of(condition) for condition in conditions]
    if any(number is not None and number[0] < 0 for number in numbers):
        return 0, "shown"
    if not conditions and degree_of(goal) <= 2:
        return 1, "shown" if squares_of(goal)[0] == "squares" else "fails"
    if len(unknowns_in(whole)) < 2 and all(degree_of(condition) < 2 for condition in conditions):
        return 2, line_of(whole)[0]
    if all(worth[0] > 0 and not any(power % 2 for _, power in powers) for powers, worth in goal):
        return 3, "shown"
    if any(is_more_of(dict(goal), dict(condition)) for condition in conditions):
        return 4, "shown"
    if first_place(whole) is not None:
        return 5, "fails"
    return None, None


def is_more_of(goal, condition):
    """Whether the goal's terms are the condition's times one fraction above nought, and a number not below nought more."""
    rest = Fraction(*goal.pop((), (0, 1)))
    start = Fraction(*condition.pop((), (0, 1)))
    if goal.keys() != condition.keys() or not goal:
        return False
    many = {Fraction(*goal[powers]) / Fraction(*condition[powers]) for powers in goal}
    return len(many) == 1 and min(many) > 0 and rest - min(many) * start >= 0


def first_place(whole):
    names = unknowns_in(whole)
    if len(names) > 3:
        return None
    for worths in itertools.product(TRIES, repeat=len(names)):
        place = tuple(zip(names, worths))
        if fails_at(whole, place):
            return place
    return None


class Seek(unittest.TestCase):
    def check(self, whole):
        """Checks what is told of the claim; the word, None for None."""
        told = seek(whole)
        self.assertEqual(told, seek(whole))
        way, word = by_ways(whole)
        if told is None:
            self.assertIsNone(word)
            return None
        self.assertIsInstance(told, tuple)
        self.assertFalse(has_list(told))
        self.assertEqual((len(told), told[0]), (2, word))
        if word == "shown":
            self.assertIs(is_paper(told[1]), True)
            self.assertIs(shows(whole, told[1]), True)
            self.assertEqual(leans_on(told[1]), [])
            self.assertLessEqual({name for form in forms_in(told[1]) for name in names_of(form)}, set(unknowns_in(whole)))
        else:
            self.assertTrue(is_place(told[1]))
            self.assertEqual([name for name, worth in told[1]], unknowns_in(whole))
            self.assertIs(fails_at(whole, told[1]), True)
            if way == 5:
                self.assertEqual(told[1], first_place(whole))
        return word

    def ways(self, number, word, *wholes):
        for whole in wholes:
            with self.subTest(whole):
                self.assertEqual(by_ways(whole), (number, word))
                self.assertEqual(self.check(whole), word)

    def test_conditions_never_held(self):
        self.ways(
            0, "shown", claim("-1", "-1"), claim("-1", "-1/9"), claim("1*w*x*y*z", "1*x", "-1"), claim("-1*x^2 + -1*y^2", "-3", "1*x"),
            claim("-1*x", "1*x^3", "0", "-2", "-1"), claim("0", "-1"), claim("1*x^2", "-1"),
        )

    def test_second_degree_without_conditions(self):
        self.ways(
            1, "shown", claim("0"), claim("3"), claim("1*x^2"), claim("1*x^2 + 2*x*y + 1*y^2"), claim("1*x^2 + 1*x + 1/4"),
            claim("1*a^2 + 1*b^2 + 1*c^2 + 1*d^2 + 1*e^2 + -1*a*b + -1*c*d + 1*a + 1"),
        )
        self.ways(
            1, "fails", claim("-3"), claim("1*x"), claim("1*x*y"), claim("-1*x^2"), claim("1*x^2 + 1*x"), claim("1*x^2 + 1*y^2 + 3*x*y"),
            # With more unknowns than three, too.
            claim("1*a^2 + 1*b^2 + 1*c^2 + 1*d^2 + -1"), claim("1*a*b + 1*c*d"), claim("1*x^2 + -1/100"),
        )

    def test_lines(self):
        self.ways(
            2, "shown", claim("1*x^3", "1*x"), claim("1*x", "1*x"), claim("1*x^4 + -2*x^2 + 1"), claim("-1", "1*x", "-1*x + -1"),
            claim("1*x", "1*x + -1", "-1*x + 1"), claim("1*x^2 + -2", "1*x + -3/2"), claim("1", "1"), claim("0", "1"),
        )
        self.ways(
            2, "fails", claim("1*x^3"), claim("-1*x^4"), claim("1*x", "1*x + 1/100"), claim("1*x^2 + -2", "1*x + -7/5"), claim("-1", "1"),
            claim("1*x^4 + -1/100000"), claim("-1", "1*x", "-1*x"),
        )

    def test_even_powers(self):
        self.ways(
            3, "shown", claim("1*x^2*y^2"), claim("1*x^2*y^2 + 1/7*z^4 + 3"), claim("1*x^4*y^6", "1*x"), claim("0", "1*x*y"),
            claim("0", "1*x^2"), claim("5", "1*x^2"), claim("1*x^2", "1*y"), claim("1*x^2", "1*x^2"), claim("1*x^2", "-1*x^2"),
            claim("1*a^2 + 1*b^2 + 1*c^2 + 1*d^2", "1*e"), claim("1*a^2*b^4*c^6*d^8 + 1*a^4"),
        )

    def test_a_condition_and_more(self):
        self.ways(
            4, "shown", claim("1*x*y", "1*x*y"), claim("3*x*y + 1", "1*x*y"), claim("1*x + 1*y", "1*x", "1*x + 1*y"),
            claim("1*x + 1*y", "2*x + 2*y"), claim("1*x + 1*y + 5", "2*x + 2*y + 10"), claim("1*x + 1*y + 5", "2*x + 2*y + 9"),
            claim("1*x + 1*y", "2*x + 2*y + -1"), claim("1*w*x*y*z + -1", "1/2*w*x*y*z + -1"), claim("-1*x^2", "1*x^2", "-2*x^2"),
            claim("1*a^2 + -1*b", "1*b", "7*a^2 + -7*b"),
        )

    def test_no_condition_and_more(self):
        for whole in (
            claim("1*x + 1*y + 5", "2*x + 2*y + 11"), claim("1*x + 1*y", "-1*x + -1*y"), claim("1*x + 1*y", "1*x + 2*y"),
            claim("1*x + 1*y", "1*x"), claim("1*x", "1*x + 1*y"), claim("1*x + 1*y", "1*x + 1*y + 1*z"), claim("1*x*y + -1", "1*x*y"),
            claim("-1", "1*x*y"), claim("-1", "1*x*y", "0"), claim("1*x*y", "0", "1*z"), claim("-1*x^2", "1*x^2"), claim("-1*x*y", "3"),
        ):
            with self.subTest(whole):
                self.assertNotEqual(by_ways(whole)[1], "shown")
                self.assertNotEqual(self.check(whole), "shown")

    def test_tried_places(self):
        self.ways(
            5, "fails", claim("1*x*y*z"), claim("1*x*y", "1*x"), claim("-1", "1*x*y"), claim("1*x^3*y + -1"), claim("1*x^2 + -1*y", "1*x", "1*y"),
            claim("1*x*y + 1*x + 1*y", "1*x + 1"), claim("-1*x^2*y^2*z^2"),
        )
        for whole, worths in (
            (claim("1*x*y*z"), ((1, 1), (1, 1), (-1, 1))), (claim("-1*x*y*z"), ((1, 1), (1, 1), (1, 1))), (claim("-1", "1*x*y"), ((0, 1), (0, 1))),
            (claim("1*x*y + -1", "1*x + -2", "1*y"), ((2, 1), (0, 1))), (claim("1 + -1*x*y", "1*x", "1*y"), ((1, 1), (2, 1))),
            (claim("1*x*y + -1/2", "-1/2 + 1*x", "-1/2 + 1*y", "-1/2 + -1*y + 1*x*y"), None), (claim("-1 + 4*x*y", "2*x*y + -1/4", "-1/16 + -1*x^2*y^2 + 1/2*x*y"), None),
            (claim("1*x^2*y + -1/3", "1*x", "1*y", "1/2 + -1*x", "-1/4 + 1*x*y"), ((1, 2), (1, 1))),
            (claim("1*x^2*y + -1", "-2 + 1*y"), ((0, 1), (2, 1))), (claim("1*x*y*z", "1*x + -1*y + -1", "1*y + -1"), ((2, 1), (1, 1), (-1, 1))),
        ):
            with self.subTest(whole):
                told = seek(whole)
                self.check(whole)
                self.assertEqual(told, None if worths is None else ("fails", tuple(zip(unknowns_in(whole), worths))))

    def test_none(self):
        for whole in (
            # They fail, but at no place of TRIES, or have four unknowns.
            claim("1*w*x*y*z"), claim("-1", "1*x*y + -5"), claim("-1*w*x*y*z", "1*x"), claim("1*a*b*c*d + -1*a"), claim("1*x*y*z + 9"),
            # They hold, but no way shows it.
            claim("1*x^4 + 1*y^4 + -1*x^2*y^2"), claim("1*x*y", "1*x", "1*y"), claim("1*x + 1*y", "1*x", "1*y"), claim("1*x", "1*x^3"),
            claim("-1", "1*x*y", "-1*x*y + -1"), claim("2*x^2 + -2*x*y + 1*y^2", "1*x"),
        ):
            with self.subTest(whole):
                self.assertEqual(by_ways(whole), (None, None))
                self.assertIsNone(seek(whole))

    def test_drawn(self):
        drawer = Drawer("seeking")
        seen = {}
        for _ in range(700):
            names = ("x", "y", "w", "z")[:drawer.number(1, 4)]
            goal = drawer.form(names, drawer.number(0, 4), drawer.number(1, 4))
            if drawer.number(0, 5) == 0:
                goal = power_of(goal, 2)
            conditions = [drawer.form(names, drawer.number(0, 2), 2) for _ in range(drawer.number(0, 3))]
            if drawer.number(0, 5) == 0:
                conditions.append(plus_of(weighed(goal, drawer.above()), number_form(drawer.fraction(2))))
            whole = (tuple(conditions), goal)
            way = by_ways(whole)
            self.assertEqual(self.check(whole), way[1])
            seen[way] = seen.get(way, 0) + 1
        for way in ((0, "shown"), (1, "shown"), (1, "fails"), (2, "shown"), (2, "fails"), (3, "shown"), (4, "shown"), (5, "fails"), (None, None)):
            self.assertGreater(seen.get(way, 0), 4, way)

    def test_great_numbers_and_forms(self):
        great = 10 ** 60 - 1
        form = weighed(plus_of(times_of(unknown("x"), unknown("x")), number_form((great, 7))), (great, 10 ** 59 + 1))
        self.assertEqual(self.check(((), form)), "shown")
        self.assertEqual(self.check(((form, unknown("y")), plus_of(weighed(form, (3, great)), unknown("y")))), None)
        terms = [((("x", 2 * one), ("y", 2 * other)), (one, 1)) for one in range(1, 7) for other in range(1, 7)]
        self.assertEqual(self.check(((), tuple(sorted(terms)))), "shown")

    def test_lists(self):
        for whole in (claim("1*x", "-1"), claim("1*x*y"), claim("1*x", "1*x"), claim("1*x^2*y^2"), claim("1*x*y", "1*x*y"), claim("1*x*y*z"), claim("1*w*x*y*z")):
            handed = nested_list(whole)
            told = seek(claim=handed)
            self.assertEqual(told, seek(whole))
            self.assertFalse(has_list(told))
            self.assertEqual(handed, nested_list(whole))


if __name__ == "__main__":
    unittest.main()
