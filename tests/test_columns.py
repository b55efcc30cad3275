import unittest
from fractions import Fraction

from drawing import Drawer, by_powers_of_x, form_from
from squarepapers.columns import changes_at, column_of, form_of, free_column, parted_columns, sign_at, sign_far
from squarepapers.exact import exact_roots
from squarepapers.fractions import lowest


class Columns(unittest.TestCase):
    def test_of_forms_and_back(self):
        drawer = Drawer("columns")
        self.assertEqual(column_of(())[1], [])
        self.assertEqual(column_of(form_from("1/2 + -2/3*x^2")), ((1, 6), [3, 0, -4]))
        self.assertEqual(column_of(form_from("-6*x")), ((6, 1), [0, -1]))
        for _ in range(50):
            form = drawer.form(("x",), 6)
            scale, column = column_of(form)
            self.assertEqual(form_of(column, scale, "x"), form)

    def test_parted(self):
        drawer = Drawer("parted columns")
        for _ in range(100):
            one = [drawer.number(-9, 9) for _ in range(drawer.number(0, 6))] + [drawer.number(1, 9)]
            other = [drawer.number(-9, 9) for _ in range(drawer.number(0, 4))] + [-drawer.number(1, 9)]
            many, quotient, rest = parted_columns(one, other)
            self.assertGreater(many, 0)
            self.assertLess(len(rest), len(other))
            total = [0] * max(len(one), len(rest))
            for power, number in enumerate(rest):
                total[power] += number
            for power, number in enumerate(quotient):
                for more, weight in enumerate(other):
                    total[power + more] += number * weight
            self.assertEqual(total, [many * number for number in one])

    def test_signs(self):
        column = [-3, 2, 0, 1]
        for point, sign in (((0, 1), -1), ((1, 1), 0), ((2, 1), 1), ((-1, 1), -1), ((99, 100), -1), ((101, 100), 1)):
            self.assertEqual(sign_at(column, point), sign)
        self.assertEqual(sign_at([], (1, 1)), 0)
        self.assertEqual(sign_at([-5], (1, 1)), -1)
        for numbers, below, above in (([0, 1], -1, 1), ([0, -1], 1, -1), ([-5, 0, 2], 1, 1), ([5, 0, -2], -1, -1), ([7], 1, 1)):
            self.assertEqual((sign_far(numbers, -1), sign_far(numbers, 1)), (below, above))

    def test_changes(self):
        chain = [[0, 0, 1], [-1, 1], [-1]]
        for point, many in (((2, 1), 1), ((1, 1), 1), ((0, 1), 0), ((-1, 1), 1), ((1, 2), 1)):
            self.assertEqual(changes_at(chain, point, 1), many)
        self.assertEqual((changes_at(chain, None, 1), changes_at(chain, None, -1)), (1, 1))

    def test_exact_roots(self):
        drawer = Drawer("exact roots")
        for _ in range(100):
            roots = {lowest(drawer.number(-30, 30), drawer.number(1, 12)) for _ in range(drawer.number(0, 6))}
            column = drawer.chance.choice(([1], [-7], [-2, 0, 1], [1, 0, 3], [2, -4, 0, 1, 2], [-36, 0, 36, 0, -11, 0, 1]))
            for top, bottom in roots:
                column = [
                    bottom * low - top * high for low, high in zip([0] + column, column + [0])
                ]
            # Each root was told above as bottom * x - top.
            for top, bottom in roots:
                worth = sum(number * Fraction(top, bottom) ** power for power, number in enumerate(column))
                self.assertEqual(worth, 0)
            found = exact_roots(free_column(column))
            self.assertEqual(len(found), len(set(found)))
            self.assertEqual(set(found), roots)

    def test_exact_roots_where_small_primes_are_unfit(self):
        # Any two of these are alike by each prime up to 29.
        step = 2 * 3 * 5 * 7 * 11 * 13 * 17 * 19 * 23 * 29
        column = [1]
        for many in range(4):
            column = [low - many * step * high for low, high in zip([0] + column, column + [0])]
        self.assertEqual(sorted(exact_roots(column)), [(many * step, 1) for many in range(4)])
        self.assertEqual(column_of(by_powers_of_x(*[(number, 1) for number in column]))[1], column)


if __name__ == "__main__":
    unittest.main()
