import unittest

from squarepapers import errors

CLASSES = (
    ("BadText", ValueError, "spot", 3),
    ("BadDegree", ValueError, "degree", 3),
    ("BadUnknowns", ValueError, "names", ("x", "y")),
    ("BadPaper", ValueError, "name", "abc"),
    ("BadPlace", ValueError, "name", "abc"),
    ("BadRow", ValueError, "row", 0),
    ("NoWorth", KeyError, "name", "x"),
    ("NoClaim", KeyError, "name", "abc"),
    ("Known", KeyError, "name", "abc"),
    ("Fails", RuntimeError, "place", (("x", (1, 2)),)),
    ("Ring", RuntimeError, "name", "abc"),
    ("NotShown", RuntimeError, "name", "abc"),
    ("Settled", RuntimeError, "name", "abc"),
    ("NotAhead", LookupError, "name", "abc"),
    ("NoDeed", IndexError, "many", 7),
)


class ErrorClasses(unittest.TestCase):
    def test_bases(self):
        for word, base, _, _ in CLASSES:
            with self.subTest(word):
                self.assertEqual(getattr(errors, word).__bases__, (base,))
        self.assertEqual(errors.NoParts.__bases__, (ZeroDivisionError,))

    def test_made_by_place(self):
        for word, _, field, value in CLASSES:
            with self.subTest(word):
                self.assertEqual(getattr(getattr(errors, word)(value), field), value)

    def test_made_by_name(self):
        for word, _, field, value in CLASSES:
            with self.subTest(word):
                self.assertEqual(getattr(getattr(errors, word)(**{field: value}), field), value)

    def test_made_with_their_fields_alone(self):
        for word, _, field, value in CLASSES:
            with self.subTest(word):
                with self.assertRaises(TypeError):
                    getattr(errors, word)()
                with self.assertRaises(TypeError):
                    getattr(errors, word)(value, value)

    def test_alike_made_either_way(self):
        for word, _, field, value in CLASSES:
            with self.subTest(word):
                made = getattr(errors, word)
                self.assertEqual(made(value).args, (value,))
                self.assertEqual(made(**{field: value}).args, (value,))

    def test_no_parts_is_made_with_nothing(self):
        self.assertIsInstance(errors.NoParts(), ZeroDivisionError)

    def test_raised_and_caught_by_pythons_class(self):
        for word, base, field, value in CLASSES:
            with self.subTest(word):
                with self.assertRaises(base) as caught:
                    raise getattr(errors, word)(value)
                self.assertEqual(getattr(caught.exception, field), value)

    def test_lists_are_kept_as_tuples(self):
        names = ["x", "y"]
        place = [["x", [1, 2]]]
        of_names = errors.BadUnknowns(names)
        of_place = errors.Fails(place)
        names.append("z")
        place[0][1][0] = 5
        self.assertEqual(of_names.names, ("x", "y"))
        self.assertEqual(of_place.place, (("x", (1, 2)),))


if __name__ == "__main__":
    unittest.main()
