import unittest

from squarepapers.kinds import are_alike, tupled


class Tupled(unittest.TestCase):
    def test_lists_at_any_depth(self):
        self.assertEqual(tupled([1, (2, [3, []], "ab"), None]), (1, (2, (3, ()), "ab"), None))
        self.assertEqual([tupled(thing) for thing in (3, "ab", None, True, (), [], [[]])], [3, "ab", None, True, (), (), ((),)])
        handed = [1, [2, [3]], ([4],)]
        tupled(handed)
        self.assertEqual(handed, [1, [2, [3]], ([4],)])
        one = [1]
        self.assertEqual(tupled([one, one, (one, one)]), ((1,), (1,), ((1,), (1,))))

    def test_deeper_than_calls_may_be_nested(self):
        thing = []
        for _ in range(5000):
            thing = [thing]
        told = tupled(thing)
        for _ in range(5000):
            self.assertIsInstance(told, tuple)
            told = told[0]
        self.assertEqual(told, ())


class AreAlike(unittest.TestCase):
    def test_alike(self):
        for thing in (None, 0, 1, True, "ab", "", (), [], (1, [2, (True, None)], "x"), [[], ()]):
            self.assertIs(are_alike(thing, thing), True)

    def test_unlike(self):
        for one, other in (
            (1, True), (0, False), (True, 1), (None, False), (None, 0), ((), []), ([], ()), ((1,), [1]), ((1, 2), (1,)), ((1,), (1, 2)), ((1, 2), (2, 1)),
            ("a", "b"), ("a", ("a",)), (("a",), "a"), (("a", "b"), "ab"), ((1, (2, [3])), (1, (2, (3,)))), (((1,),), ((True,),)), ([[], ()], [(), []]), (1, "1"), ((), None),
        ):
            self.assertIs(are_alike(one, other), False)


if __name__ == "__main__":
    unittest.main()
