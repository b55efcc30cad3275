import unittest

from squarepapers.words import TRIES, WIDTH


class Words(unittest.TestCase):
    def test_width(self):
        self.assertEqual(WIDTH, (1, 1000))

    def test_tries(self):
        self.assertEqual(TRIES, ((0, 1), (1, 1), (-1, 1), (2, 1), (1, 2)))


if __name__ == "__main__":
    unittest.main()
