import unittest

from squarepapers.figures import are_figures, figures_of, number_in


class Figures(unittest.TestCase):
    def test_short_ones(self):
        for number in (0, 1, 9, 10, 10 ** 59, 10 ** 60 - 1, 10 ** 60, 10 ** 60 + 7, 10 ** 120, 12 ** 300):
            with self.subTest(number):
                self.assertEqual(figures_of(number), str(number))
                self.assertEqual(number_in(str(number)), number)

    def test_longer_than_python_reads_at_once(self):
        figures = "1" + "0" * 9998 + "7"
        number = 10 ** 9999 + 7
        self.assertEqual(figures_of(number), figures)
        self.assertEqual(number_in(figures), number)

    def test_are_figures(self):
        for text in ("0", "7", "0123456789"):
            self.assertIs(are_figures(text), True)
        for text in ("", " 1", "1 ", "-1", "1.", "1_0", "a", "1\n", "\u0663", "\u00b2"):
            self.assertIs(are_figures(text), False)
        for code in range(32, 127):
            self.assertIs(are_figures(chr(code)), chr(code) in "0123456789")


if __name__ == "__main__":
    unittest.main()
