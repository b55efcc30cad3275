import unittest
from fractions import Fraction

from drawing import THINGS, Drawer, by_powers_of_x, form_from, has_list, nested_list
from squarepapers.errors import BadUnknowns, NoParts
from squarepapers.forms import number_form, plus_of, power_of, times_of, unknown, weighed
from squarepapers.fractions import is_fraction, lowest
from squarepapers.roots import parted, shows_parted
from squarepapers.words import WIDTH

ONE = number_form((1, 1))
X = unknown("x")
TWO_UNKNOWNS = form_from("1*x + 1*y")


def pair(number):
    return (number.numerator, number.denominator)


class Root:
    """The root middle + sign * root(square), known beforehand; a fraction where square is nought."""

    def __init__(self, middle, square=0, sign=0):
        self.middle, self.square, self.sign = Fraction(middle), Fraction(square), sign

    def above(self, point):
        """1 where the root is above the point, 0 where it's the point, -1 below."""
        rest = self.middle - point
        if not self.square:
            return (rest > 0) - (rest < 0)
        # Whether rest + sign * root(square) is above nought.
        if rest == 0 or (rest > 0) == (self.sign > 0):
            return self.sign
        return self.sign if self.square > rest * rest else -self.sign


def linear(root):
    return plus_of(X, number_form(pair(-Fraction(root))))


def surds(middle, square):
    """The form (x - middle)^2 - square."""
    return plus_of(power_of(linear(middle), 2), number_form(pair(-Fraction(square))))


def product_of(forms):
    form = ONE
    for other in forms:
        form = times_of(form, other)
    return form


class PartedCase(unittest.TestCase):
    def check(self, form, roots, width=None):
        """Checks what is told of a form with just these roots."""
        told = parted(form) if width is None else parted(form, width=width)
        most = Fraction(*(WIDTH if width is None else width))
        self.assertIsInstance(told, list)
        self.assertEqual(len(told), len(roots))
        left = list(roots)
        last = None
        for each in told:
            self.assertTrue(isinstance(each, tuple) and len(each) == 2 and all(map(is_fraction, each)))
            low, high = Fraction(*each[0]), Fraction(*each[1])
            held = [root for root in left if root.above(low) >= 0 and root.above(high) <= 0]
            self.assertEqual(len(held), 1)
            root = held[0]
            self.assertEqual(low == high, not root.square)
            if root.square:
                self.assertEqual((root.above(low), root.above(high)), (1, -1))
                self.assertLessEqual(high - low, most)
            self.assertTrue(last is None or last.above(low) < 0 or last.above(high) < 0)
            self.assertEqual([other for other in roots if other.above(low) >= 0 and other.above(high) <= 0], [root])
            left = [other for other in left if other is not root]
            last = root
        lows = [Fraction(*each[0]) for each in told]
        self.assertEqual(lows, sorted(lows))
        if width is None:
            self.assertIs(shows_parted(form, told), True)
        else:
            self.assertIs(shows_parted(form, told, width=width), True)
        return told


class Parted(PartedCase):
    def test_numbers_and_forms_without_roots(self):
        self.assertEqual(parted(ONE), [])
        self.assertEqual(parted(form_from("-5/7")), [])
        self.assertEqual(parted(form_from("1*x^2 + 1")), [])
        self.assertEqual(parted(form_from("-3*x^4 + -1*x^2 + -1/1000")), [])

    def test_fractions(self):
        self.assertEqual(parted(X), [((0, 1), (0, 1))])
        self.assertEqual(parted(form_from("-2*x + 1")), [((1, 2), (1, 2))])
        self.assertEqual(parted(form_from("1*x^24")), [((0, 1), (0, 1))])
        self.assertEqual(parted(form_from("1*x^2 + -1/9")), [((-1, 3), (-1, 3)), ((1, 3), (1, 3))])
        self.assertEqual(parted(form_from("1*x^3 + -1*x")), [((-1, 1), (-1, 1)), ((0, 1), (0, 1)), ((1, 1), (1, 1))])
        self.assertEqual(parted(form_from("1*x^3 + -8")), [((2, 1), (2, 1))])

    def test_great_and_small_fractions(self):
        numbers = (
            Fraction(10 ** 60, 7), Fraction(-(10 ** 60), 10 ** 60 - 1), Fraction(1, 10 ** 60), Fraction(0), Fraction(1, 10 ** 60 - 1),
            Fraction(2 ** 190, 3 ** 120), Fraction(-7, 2),
        )
        self.check(product_of(map(linear, numbers)), [Root(number) for number in numbers])
        self.check(product_of([linear(number) for number in numbers for _ in (0, 1, 2)][:12]), [Root(n) for n in numbers[:4]])

    def test_no_fractions(self):
        self.check(form_from("1*x^2 + -2"), [Root(0, 2, 1), Root(0, 2, -1)])
        self.check(form_from("-3*x^2 + 1"), [Root(0, Fraction(1, 3), 1), Root(0, Fraction(1, 3), -1)])
        self.assertEqual(len(parted(form_from("1*x^3 + -3*x + 1"))), 3)
        self.assertEqual(len(parted(form_from("1*x^5 + -4*x + 2"))), 3)
        ((low, high),) = parted(form_from("1*x^3 + -2"))
        self.assertLess(Fraction(*low) ** 3, 2)
        self.assertGreater(Fraction(*high) ** 3, 2)

    def test_roots_within_each_prime(self):
        # By each prime it has roots; none is a fraction.
        form = product_of([surds(0, 2), surds(0, 3), surds(0, 6)])
        self.check(form, [Root(0, square, sign) for square in (2, 3, 6) for sign in (1, -1)])
        self.assertEqual(parted(product_of([form_from("1*x^2 + 1"), surds(0, -2), surds(0, -3)])), [])

    def test_mixed(self):
        form = product_of([surds(0, 2), linear(1), linear(Fraction(3, 2)), linear(-2), linear(-1)])
        roots = [Root(0, 2, 1), Root(0, 2, -1), Root(1), Root(Fraction(3, 2)), Root(-2), Root(-1)]
        self.check(form, roots)
        for width in ((1, 1), (100, 1), (10 ** 60, 1), (1, 7), (1, 10 ** 30)):
            self.check(form, roots, width)

    def test_near_one_another(self):
        # Fractions just below and above roots that are none.
        low, high = Fraction(141421356237309504880, 10 ** 20), Fraction(141421356237309504881, 10 ** 20)
        form = product_of([surds(0, 2), linear(low), linear(high)])
        self.check(form, [Root(0, 2, 1), Root(0, 2, -1), Root(low), Root(high)])
        little = Fraction(1, 10 ** 30)
        form = product_of([surds(0, 2), surds(little, 2), surds(0, 2 + little)])
        roots = [Root(m, s, sign) for m, s in ((0, 2), (little, 2), (0, 2 + little)) for sign in (1, -1)]
        self.check(form, roots)
        self.check(form, roots, (1000, 1))

    def test_fractions_where_halving_comes_to(self):
        # The ends of stretches that are halved again and again are roots here.
        numbers = [Fraction(many, 4) for many in (-8, -4, -2, 0, 1, 2, 4, 8)]
        form = product_of([surds(0, 2)] + [linear(number) for number in numbers])
        roots = [Root(number) for number in numbers] + [Root(0, 2, 1), Root(0, 2, -1)]
        for width in ((1, 1000), (1, 1), (1000, 1)):
            self.check(form, roots, width)

    def test_several_times(self):
        self.check(power_of(surds(1, 5), 5), [Root(1, 5, 1), Root(1, 5, -1)])
        self.check(times_of(power_of(linear(2), 4), power_of(surds(2, 3), 3)), [Root(2), Root(2, 3, 1), Root(2, 3, -1)])

    def test_widths(self):
        form, roots = surds(Fraction(1, 3), 7), [Root(Fraction(1, 3), 7, 1), Root(Fraction(1, 3), 7, -1)]
        for width in ((1, 1), (1, 2), (3, 7), (5, 1), (10 ** 60, 1), (1, 10 ** 6), (1, 10 ** 60), (10 ** 60 - 1, 10 ** 60)):
            self.check(form, roots, width)

    def test_widths_are_kept(self):
        for low, high in parted(form_from("1*x^2 + -2"), width=(1, 10 ** 9)):
            self.assertLessEqual(Fraction(*high) - Fraction(*low), Fraction(1, 10 ** 9))
        for low, high in parted(form_from("1*x^2 + -2")):
            self.assertLessEqual(Fraction(*high) - Fraction(*low), Fraction(1, 1000))

    def test_ten_roots(self):
        numbers = [Fraction(many * many - 31, many + 1) for many in range(10)]
        form = product_of(map(linear, numbers))
        told = self.check(form, [Root(number) for number in set(numbers)])
        self.assertEqual(parted(form), told)
        form = product_of([surds(many, many + 2) for many in range(5)])
        roots = [Root(many, many + 2, sign) for many in range(5) if many != 2 for sign in (1, -1)] + [Root(0), Root(4)]
        self.check(form, roots)

    def test_great_numbers_all_about(self):
        form = by_powers_of_x(*[((-1) ** k * (10 ** 60 - k * k), 10 ** 59 + 7 * k) for k in range(11)])
        told = parted(form, width=(1, 10 ** 60))
        self.assertIs(shows_parted(form, told, width=(1, 10 ** 60)), True)

    def test_drawn(self):
        drawer = Drawer("parted")
        for _ in range(150):
            forms, roots = [number_form(drawer.above()), weighed(ONE, (-1, 1))], {}
            for _ in range(drawer.number(1, 4)):
                middle = Fraction(*drawer.fraction(5))
                if drawer.number(0, 1):
                    forms.append(linear(middle))
                    roots[middle] = Root(middle)
                else:
                    square = drawer.number(-3, 8)
                    forms.append(surds(middle, square))
                    if square in (0, 1, 4):
                        for sign in (1, -1):
                            end = middle + sign * {0: 0, 1: 1, 4: 2}[square]
                            roots[end] = Root(end)
                    elif square > 0:
                        roots[middle, square, 1] = Root(middle, square, 1)
                        roots[middle, square, -1] = Root(middle, square, -1)
            self.check(product_of(forms), list(roots.values()), drawer.above(9))

    def test_refused(self):
        for ask in (parted, lambda form: shows_parted(form, []), lambda form: shows_parted(form, None)):
            with self.assertRaises(NoParts) as caught:
                ask(())
            self.assertIsInstance(caught.exception, ZeroDivisionError)
            with self.assertRaises(BadUnknowns) as caught:
                ask(TWO_UNKNOWNS)
            self.assertEqual(caught.exception.names, ("x", "y"))
            self.assertIsInstance(caught.exception, ValueError)

    def test_width_by_its_name_alone(self):
        with self.assertRaises(TypeError):
            parted(X, (1, 2))
        with self.assertRaises(TypeError):
            shows_parted(X, [], (1, 2))

    def test_lists(self):
        form = form_from("1*x^3 + -1/2*x")
        handed = nested_list(form)
        told = parted(handed, width=[1, 7])
        self.assertEqual(told, parted(form, width=(1, 7)))
        self.assertFalse(any(has_list(each) for each in told))
        self.assertEqual(handed, nested_list(form))
        told.clear()
        self.assertEqual(len(parted(form=form, width=(1, 7))), 3)
        self.assertIsNot(parted(ONE), parted(ONE))


class ShowsParted(unittest.TestCase):
    # Roots -root(2), -1, 1/2, root(2).
    FORM = product_of([surds(0, 2), linear(-1), linear(Fraction(1, 2))])
    ONE = ((-1, 1), (-1, 1))
    HALF = ((1, 2), (1, 2))
    LOW, HIGH = ((-283, 200), (-707, 500)), ((707, 500), (283, 200))

    def shows(self, *pairs, width=(1, 1000)):
        return shows_parted(self.FORM, list(pairs), width=width)

    def test_other_pairs_as_good(self):
        self.assertIs(self.shows(self.LOW, self.ONE, self.HALF, self.HIGH), True)
        self.assertIs(self.shows(self.LOW, self.ONE, self.HALF, ((7071, 5000), (14143, 10000))), True)
        self.assertIs(shows_parted(self.FORM, [self.LOW, self.ONE, self.HALF, self.HIGH]), True)
        wide = ((51, 100), (100, 1))
        self.assertIs(self.shows(self.LOW, self.ONE, self.HALF, wide, width=(100, 1)), True)
        self.assertIs(self.shows(((-9, 1), (-101, 100)), self.ONE, self.HALF, wide, width=(100, 1)), True)
        # Pairs may share an end.
        form = times_of(surds(0, 2), surds(0, 3))
        low, high = ((1, 1), (3, 2)), ((3, 2), (2, 1))
        pairs = [((-2, 1), (-3, 2)), ((-3, 2), (-1, 1)), low, high]
        self.assertIs(shows_parted(form, pairs, width=(1, 2)), True)

    def test_widths(self):
        for width, shown in (((1, 1000), True), ((1, 1001), False), ((1, 999), True), ((5, 1), True), ((1, 10 ** 9), False)):
            self.assertIs(self.shows(self.LOW, self.ONE, self.HALF, self.HIGH, width=width), shown)
        told = parted(self.FORM, width=(1, 10 ** 9))
        self.assertIs(shows_parted(self.FORM, told), True)
        self.assertIs(shows_parted(self.FORM, parted(self.FORM, width=(1, 2))), False)
        self.assertIs(shows_parted(form=self.FORM, thing=told, width=[1, 10 ** 9]), True)

    def test_not_so(self):
        low, one, half, high = self.LOW, self.ONE, self.HALF, self.HIGH
        for pairs in (
            (), (low, one, half), (one, half, high), (low, one, high), (low, one, one, half, high), (low, low, one, half, high),
            (low, one, half, high, high), (one, low, half, high), (low, half, one, high), (high, half, one, low), (high, one, half, low),
            (low, low, half, high), (low, one, half, half), (low, one, one, high), (low, one, half, low),
            (low, one, half, (high[1], high[0])), (low, one, half, (high[0], high[0])), (low, one, half, (high[1], high[1])),
            # a fraction told as a stretch, one beside it
            (low, one, ((499, 1000), (5001, 10000)), high), (low, one, ((1, 2), (5001, 10000)), high),
            (low, one, ((4999, 10000), (1, 2)), high), (low, one, ((1, 3), (1, 3)), high), (low, one, ((2, 4), (2, 4)), high),
            (low, one, half, high[0]), (low, one, half, ()), (low, one, half, None), (low, one, half, (high[0], high[1], high[1])),
            (low, one, half, (high[0], None)), (low, one, half, (None, None)), (low, one, half, (True, True)), (low, one, half, "xy"),
            (low, one, half, (high[0], 2)), (low, ((-1, True), (-1, True)), half, high), (low, one, half, list(high)),
            (low, one, (list(half[0]), half[1]), high), (low, one, (half[0], list(half[1])), high), (low, one, half, nested_list(high)),
            ([low, one, half, high],), (low, (-1, 1), half, high),
        ):
            with self.subTest(pairs):
                self.assertIs(self.shows(*pairs), False)
        self.assertIs(shows_parted(self.FORM, (low, one, half, high)), False)

    def test_stretches_with_several_roots_or_a_root_at_an_end(self):
        low, one, half, high = self.LOW, self.ONE, self.HALF, self.HIGH
        for pairs in (
            (low, one, half, ((1, 2), (2, 1))), (low, one, half, ((0, 1), (2, 1))), (low, one, half, ((-1, 1), (2, 1))),
            (((-2, 1), (-1, 1)), one, half, high), (((-2, 1), (0, 1)), one, half, high), (((-2, 1), (2, 1)), one, half, high),
            (low, one, half, ((1, 1), (1, 1))), (low, one, half, ((2, 1), (3, 1))), (((-2, 1), (1, 1)), one, half, high),
            (low, ((-3, 2), (0, 1)), half, high), (low, ((-5, 4), (-1, 2)), half, high), (low, ((-5, 4), (1, 1)), half, high),
        ):
            with self.subTest(pairs):
                self.assertIs(self.shows(*pairs, width=(10, 1)), False)
        wide = ((-2, 1), (-101, 100)), one, half, ((3, 5), (2, 1))
        self.assertIs(self.shows(*wide, width=(10, 1)), True)

    def test_none_without_roots(self):
        for form in (ONE, form_from("1*x^2 + 1")):
            self.assertIs(shows_parted(form, []), True)
            self.assertIs(shows_parted(form, ()), False)
            self.assertIs(shows_parted(form, None), False)
            self.assertIs(shows_parted(form, [((0, 1), (0, 1))]), False)
            self.assertIs(shows_parted(form, [((0, 1), (1, 1))], width=(9, 1)), False)

    def test_things_of_any_kind(self):
        for thing in THINGS:
            self.assertIs(shows_parted(self.FORM, thing), False)
            self.assertIs(shows_parted(X, thing), False)
            self.assertIs(shows_parted(ONE, thing), thing == [] and isinstance(thing, list))

    def test_what_is_asked_about_stays(self):
        thing = [list(self.LOW), self.ONE, self.HALF, self.HIGH]
        self.assertIs(shows_parted(nested_list(self.FORM), thing), False)
        self.assertEqual(thing, [list(self.LOW), self.ONE, self.HALF, self.HIGH])
        thing[0] = self.LOW
        self.assertIs(shows_parted(nested_list(self.FORM), thing), True)
        self.assertEqual(thing, [self.LOW, self.ONE, self.HALF, self.HIGH])

    def test_ten_roots_handed_in_again(self):
        form = product_of([surds(many, many + 2) for many in range(5)])
        told = parted(form)
        self.assertIs(shows_parted(form, told), True)
        self.assertIs(shows_parted(form, told[1:]), False)
        self.assertIs(shows_parted(form, told[::-1]), False)


if __name__ == "__main__":
    unittest.main()
