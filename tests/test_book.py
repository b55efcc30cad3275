import copy
import unittest

from drawing import THINGS, Drawer, form_from, has_list, nested_list
from squarepapers.book import Book, book_paper, shows_book
from squarepapers.claims import fails_at
from squarepapers.errors import BadPaper, BadPlace, Known, NoClaim, NoDeed, NotShown, NoWorth, Ring, Settled
from squarepapers.papers import leans_on, shows
from squarepapers.seeking import seek


def known(name, *steps):
    return ("known", name, steps)


def times(number, step):
    return ("step", ("times", ("number", (number, 1)), step))


def many_squares(many):
    """The claim of so many times x * x; many below nought fails where x isn't nought."""
    return ((), form_from(f"{many}*x^2"))


SQUARE = many_squares(1)
BY_SQUARE = ("step", ("square", form_from("1*x")))
FALSE = ((), form_from("-1*x^2"))
HARD = ((form_from("1*x"), form_from("1*y")), form_from("1*x*y"))
BY_GIVEN = ("step", ("times", ("given", 0), ("given", 1)))
AT_ONE = (("x", (1, 1)),)


def filled():
    """A book: a shown, b leans on a, c on b, d on a and c, e is open, f failed."""
    book = Book()
    for many, name in enumerate("abcd"):
        book.say(name, many_squares(2 ** many))
    book.show("a", BY_SQUARE)
    book.show("b", times(2, known("a")))
    book.show("c", times(2, known("b")))
    book.show("d", ("step", ("sum", ("times", ("number", (4, 1)), known("a")), known("c"))))
    book.say("e", HARD)
    book.say("f", FALSE)
    book.fail("f", AT_ONE)
    return book


def states(book):
    return "".join(book.state(name)[0] for name in book.all_names())


class BookCase(unittest.TestCase):
    def refused(self, refusal, field, deed, *handed, book=None, **more):
        """Checks that the deed is refused so, and that nothing but calls is changed by that."""
        held = deed.__self__
        ahead, entries, many = book_paper(held), held.calls(), held.deeds()
        with self.assertRaises(refusal) as caught:
            deed(*handed, **more)
        self.assertIs(caught.exception.__class__, refusal)
        self.assertEqual([held for held in vars(caught.exception).values()], [field])
        self.assertEqual((book_paper(held), held.deeds()), (ahead, many))
        word = deed.__name__
        if word in ("say", "show", "fail", "find", "change", "drop"):
            self.assertEqual(held.calls(), entries + [("in", word), ("out", word)])
        elif word != "do":
            self.assertEqual(held.calls(), entries)


class Deeds(BookCase):
    def test_say(self):
        book = Book()
        self.assertIsNone(book.say("b", HARD))
        self.assertIsNone(book.say(name="a", claim=SQUARE))
        self.assertEqual(book_paper(book), [("a", SQUARE, "open", None), ("b", HARD, "open", None)])
        self.refused(Known, "b", book.say, "b", SQUARE)
        self.refused(Known, "a", book.say, "a", SQUARE)
        for name in "acf":
            self.refused(Known, name, filled().say, name, HARD)
        self.assertTrue(issubclass(Known, KeyError))

    def test_show(self):
        book = Book()
        book.say("a", SQUARE)
        self.assertIsNone(book.show("a", BY_SQUARE))
        self.assertEqual(book_paper(book), [("a", SQUARE, "shown", BY_SQUARE)])
        book.say("b", many_squares(2))
        self.assertIsNone(book.show(name="b", paper=times(2, known("a"))))
        self.assertEqual(book.paper("b"), times(2, known("a")))

    def test_show_another_paper_in_its_stead(self):
        book = filled()
        other = ("cases", form_from("1*x"), BY_SQUARE, ("step", ("times", ("given", 0), ("given", 0))))
        book.show("a", other)
        self.assertEqual(book.paper("a"), other)
        self.assertEqual(states(book), "ssssof")
        self.assertEqual((book.paper("b"), book.leaning("a")), (times(2, known("a")), ["b", "c", "d"]))
        # In the midst, and so that it leans on none.
        book.show("c", times(4, ("square", form_from("1*x"))))
        self.assertEqual((states(book), book.all_leans("d"), book.leaning("b")), ("ssssof", ["a", "c"], []))
        # Now b may lean on c.
        book.show("b", ("part", (2, 1), ("number", (0, 1)), known("c")))
        self.assertEqual((book.leans("b"), book.leaning("c")), (["c"], ["b", "d"]))

    def test_show_refused(self):
        book = filled()
        self.refused(NoClaim, "g", book.show, "g", BY_SQUARE)
        self.refused(NoClaim, "g", book.show, "g", times(1, known("g")))
        self.refused(Settled, "f", book.show, "f", BY_SQUARE)
        self.refused(Settled, "f", book.show, "f", times(1, known("f")))
        self.refused(Settled, "f", book.show, "f", times(1, known("nowhere")))
        for name, other in (("a", "a"), ("a", "b"), ("a", "c"), ("a", "d"), ("b", "b"), ("b", "c"), ("b", "d"), ("c", "d"), ("e", "e"), ("d", "d")):
            self.refused(Ring, name, book.show, name, times(1, known(other)))
            # Ring goes ahead of NotShown.
            self.refused(Ring, name, book.show, name, ("step", ("sum", known("aa"), ("sum", known("e"), known(other)))))
            self.refused(Ring, name, book.show, name, ("cases", form_from("1*x"), times(1, known(other)), times(1, known("nowhere"))))
        self.refused(NotShown, "e", book.show, "a", times(1, known("e")))
        self.refused(NotShown, "f", book.show, "a", times(1, known("f")))
        self.refused(NotShown, "g", book.show, "a", times(1, known("g")))
        self.refused(NotShown, "e", book.show, "d", ("step", ("sum", known("g"), ("sum", known("f"), ("sum", known("e"), known("a"))))))
        self.refused(NotShown, "aa", book.show, "d", ("step", ("sum", known("e"), known("aa"))))
        self.refused(NotShown, "f", book.show, "e", ("step", ("sum", known("g"), known("f"))))
        # NotShown goes ahead of BadPaper, which it is where all it leans on are shown.
        self.refused(BadPaper, "d", book.show, "d", times(1, known("a")))
        self.refused(BadPaper, "e", book.show, "e", BY_SQUARE)
        self.refused(BadPaper, "e", book.show, "e", ("step", known("a", ("given", 0))))
        self.refused(BadPaper, "a", book.show, "a", ("one",))
        for refusal, root in ((NoClaim, KeyError), (Settled, RuntimeError), (Ring, RuntimeError), (NotShown, RuntimeError), (BadPaper, ValueError)):
            self.assertTrue(issubclass(refusal, root))

    def test_ring_by_the_papers_that_stand(self):
        book = filled()
        self.refused(Ring, "a", book.show, "a", ("part", (2, 1), ("number", (0, 1)), known("b")))
        book.show("b", times(2, ("square", form_from("1*x"))))
        book.show("a", ("part", (2, 1), ("number", (0, 1)), known("b")))
        self.refused(Ring, "b", book.show, "b", times(2, known("a")))
        self.assertEqual(book.leans("a"), ["b"])
        book.undo()
        book.show("b", times(2, known("a")))

    def test_known_are_those_it_leans_on(self):
        book = Book()
        book.say("a", many_squares(3))
        book.say("b", many_squares(6))
        book.find("a")
        self.refused(BadPaper, "b", book.show, "b", times(3, known("a")))
        book.show("b", times(2, known("a")))

    def test_fail(self):
        book = Book()
        book.say("a", FALSE)
        self.assertIsNone(book.fail("a", AT_ONE))
        self.assertEqual(book_paper(book), [("a", FALSE, "failed", AT_ONE)])
        # Another place in its stead, of more unknowns too.
        more = (("a", (0, 1)), ("x", (-5, 3)))
        self.assertIsNone(book.fail(name="a", place=more))
        self.assertEqual(book.where("a"), more)

    def test_fail_refused(self):
        book = filled()
        self.refused(NoClaim, "g", book.fail, "g", AT_ONE)
        self.refused(NoClaim, "g", book.fail, "g", ())
        for name in "abcd":
            self.refused(BadPlace, name, book.fail, name, AT_ONE)
        for place in ((), AT_ONE, (("y", (-1, 1)),), (("x", (1, 1)), ("z", (-1, 1))), (("x", (1, 1)), ("y", (-1, 1))), (("x", (1, 1)), ("y", (1, 1)))):
            self.refused(BadPlace, "e", book.fail, "e", place)
        for place in ((), (("x", (0, 1)),), (("y", (1, 1)),)):
            self.refused(BadPlace, "f", book.fail, "f", place)
        self.assertTrue(issubclass(BadPlace, ValueError))

    def test_find(self):
        book = Book()
        for name, claim in (("a", SQUARE), ("b", FALSE), ("c", HARD), ("d", ((form_from("1*x"),), form_from("1*x^3")))):
            book.say(name, claim)
        self.assertEqual([book.find(name) for name in "abcd"], ["shown", "failed", "open", "shown"])
        self.assertEqual(states(book), "sfos")
        for name in "ad":
            self.assertEqual(("shown", book.paper(name)), seek(book.claim(name)))
        self.assertEqual(("fails", book.where("b")), seek(FALSE))
        self.assertEqual((book.paper("c"), book.where("c"), book.deeds()), (None, None, 8))
        self.refused(NoClaim, "e", book.find, "e")
        self.assertEqual(book.find(name="c"), "open")

    def test_find_of_shown_and_failed_ones(self):
        book = filled()
        book.fail("f", (("x", (7, 1)),))
        ahead = book_paper(book)
        for name, told in zip("abcdef", ("shown", "shown", "shown", "shown", "open", "failed")):
            many = book.deeds()
            self.assertEqual(book.find(name), told)
            self.assertEqual(book.deeds(), many + 1)
        self.assertEqual(book_paper(book), ahead)

    def test_change(self):
        for name, told, left in (("a", "oooo", []), ("b", "sooo", []), ("c", "ssoo", ["b"]), ("d", "ssso", ["b", "c"])):
            # Also to one like it.
            for claim in (HARD, many_squares(2 ** "abcd".index(name)), SQUARE):
                book = filled()
                papers = [book.paper(other) for other in "abcd"]
                self.assertIsNone(book.change(name, claim))
                self.assertEqual(states(book), told + "of")
                self.assertEqual(book.claim(name), claim)
                self.assertEqual([book.claim(other) for other in "abcd" if other != name], [many_squares(2 ** at) for at in range(4) if "abcd"[at] != name])
                self.assertEqual([book.paper(other) for other in "abcd"], [paper if state == "s" else None for paper, state in zip(papers, told)])
                self.assertEqual(book.leaning("a"), left)
        book = filled()
        book.change("f", FALSE)
        self.assertEqual((states(book), book.where("f")), ("ssssoo", None))
        book.change(name="e", claim=FALSE)
        self.assertEqual((states(book), book.claim("e")), ("ssssoo", FALSE))
        self.refused(NoClaim, "g", book.change, "g", SQUARE)

    def test_drop(self):
        for name, told in (("a", "ooo"), ("b", "soo"), ("c", "sso"), ("d", "sss")):
            book = filled()
            self.assertIsNone(book.drop(name))
            self.assertEqual(book.all_names(), [other for other in "abcdef" if other != name])
            self.assertEqual(states(book), told + "of")
            self.assertEqual(len(book), 5)
            self.refused(NoClaim, name, book.drop, name)
            self.refused(NoClaim, name, book.claim, name)
            # It may be said again, and is open then.
            book.say(name, SQUARE)
            self.assertEqual(book.state(name), "open")
        book = filled()
        self.refused(NoClaim, "g", book.drop, "g")
        book.drop(name="f")
        self.assertEqual(states(book), "sssso")

    def test_no_others_are_opened(self):
        book = filled()
        book.say("g", SQUARE)
        book.show("g", BY_SQUARE)
        book.say("h", SQUARE)
        book.show("h", ("step", known("g")))
        book.change("a", HARD)
        self.assertEqual(states(book), "ooooofss")
        self.assertEqual(book.leaning("g"), ["h"])

    def test_leaning_through_all_words_of_papers(self):
        square = ("step", known("a"))
        for paper in (
            square, ("part", (1, 1), ("number", (0, 1)), known("a")), ("cases", form_from("1*x"), square, BY_SQUARE), ("cases", form_from("1*x"), BY_SQUARE, square),
            ("order", ("y", "z"), square), ("first", SQUARE, square, ("step", ("use", 0, ()))), ("first", SQUARE, BY_SQUARE, square),
            ("step", ("put", (), known("a"))), ("step", ("sum", ("number", (0, 1)), known("a"))),
        ):
            book = Book()
            for name in "ab":
                book.say(name, SQUARE)
            book.show("a", BY_SQUARE)
            book.show("b", paper)
            self.assertEqual((book.leans("b"), book.leaning("a")), (["a"], ["b"]))
            one = book.one_paper("b")
            self.assertEqual(leans_on(one), [])
            self.assertIs(shows(SQUARE, one), True)
            book.change("a", SQUARE)
            self.assertEqual(states(book), "oo")


class DoAndUndo(BookCase):
    DEEDS = [("say", "a", SQUARE), ("find", "a"), ("say", "b", many_squares(2)), ("show", "b", times(2, known("a"))), ("say", "c", FALSE), ("find", "c"), ("drop", "c"), ("change", "b", HARD)]
    TOLD = [None, "shown", None, None, None, "failed", None, None]

    def test_do(self):
        book = Book()
        self.assertEqual(book.do(self.DEEDS), self.TOLD)
        self.assertEqual((book.all_names(), states(book), book.deeds()), (["a", "b"], "so", 1))
        self.assertEqual(book.do([]), [])
        self.assertEqual(book.do(deeds=(("find", "b"),)), ["open"])
        self.assertEqual(book.deeds(), 3)
        self.assertEqual(book.do([("fail", "b", (("x", (1, 1)), ("y", (1, 1))))][:0]), [])

    def test_each_word(self):
        one, other = Book(), Book()
        for deed, told in zip(self.DEEDS + [("say", "c", FALSE), ("fail", "c", AT_ONE)], self.TOLD + [None, None]):
            self.assertEqual(one.do([deed]), [told])
            self.assertEqual(getattr(other, deed[0])(*deed[1:]), told)
            self.assertEqual(book_paper(one), book_paper(other))
            self.assertEqual(one.deeds(), other.deeds())

    def test_refused_in_the_midst(self):
        for bad, refusal, field in (
            (("say", "a", SQUARE), Known, "a"), (("show", "z", BY_SQUARE), NoClaim, "z"), (("show", "f", BY_SQUARE), Settled, "f"),
            (("show", "a", times(1, known("b"))), Ring, "a"), (("show", "b", times(1, known("e"))), NotShown, "e"), (("show", "b", BY_SQUARE), BadPaper, "b"),
            (("fail", "a", AT_ONE), BadPlace, "a"), (("fail", "z", AT_ONE), NoClaim, "z"), (("find", "z"), NoClaim, "z"), (("change", "z", SQUARE), NoClaim, "z"),
            (("drop", "z"), NoClaim, "z"),
        ):
            good = [("say", "g", SQUARE), ("find", "g"), ("find", "e")]
            for deeds in ([bad], good + [bad], [bad] + good, good + [bad, ("say", "h", SQUARE), bad], good[:1] + [bad] + good[1:]):
                book = filled()
                at = deeds.index(bad)
                many = len(book.calls())
                self.refused(refusal, field, book.do, deeds)
                entries = [entry for deed in deeds[:at + 1] for entry in (("in", deed[0]), ("out", deed[0]))]
                self.assertEqual(book.calls(first=many), [("in", "do")] + entries + [("out", "do")])
                self.assertNotIn("g", book.all_names())

    def test_refused_by_what_was_done_ahead(self):
        book = filled()
        self.refused(NoClaim, "a", book.do, [("drop", "a"), ("find", "a")])
        self.refused(Known, "g", book.do, [("say", "g", SQUARE), ("say", "g", SQUARE)])
        self.refused(NotShown, "b", book.do, [("change", "a", SQUARE), ("show", "c", times(2, known("b")))])
        self.assertEqual(book.do([("change", "a", SQUARE), ("show", "a", BY_SQUARE), ("show", "b", times(2, known("a")))]), [None] * 3)

    def test_undo_each_deed(self):
        deeds = self.DEEDS + [("say", "c", FALSE), ("fail", "c", AT_ONE), ("fail", "c", (("x", (2, 1)),)), ("find", "c"), ("find", "b"), ("drop", "a")]
        book = Book()
        stood = [book_paper(book)]
        for deed in deeds:
            getattr(book, deed[0])(*deed[1:])
            stood.append(book_paper(book))
        for at in reversed(range(len(deeds))):
            self.assertEqual(book_paper(book), stood[at + 1])
            self.assertIs(book.undo(), True)
            self.assertEqual((book_paper(book), book.deeds()), (stood[at], at))
        for _ in range(3):
            self.assertIs(book.undo(), False)
            self.assertEqual((len(book), book.deeds()), (0, 0))

    def test_undo_of_do_and_of_what_changed_nothing(self):
        book = filled()
        ahead, many = book_paper(book), book.deeds()
        book.do([("drop", "a"), ("drop", "b"), ("find", "c")])
        book.do([])
        book.find("e")
        self.assertEqual(book.deeds(), many + 3)
        self.assertEqual([book.undo(), book.undo()], [True, True])
        self.assertEqual(book.all_names(), list("cdef"))
        self.assertIs(book.undo(), True)
        self.assertEqual((book_paper(book), book.deeds()), (ahead, many))

    def test_refused_ones_are_none_to_undo(self):
        book = Book()
        book.say("a", SQUARE)
        self.refused(Known, "a", book.say, "a", HARD)
        self.refused(Known, "a", book.do, [("say", "b", HARD), ("say", "a", HARD)])
        self.assertEqual(book.deeds(), 1)
        self.assertEqual([book.undo(), len(book), book.undo()], [True, 0, False])

    def test_deeds_after_an_undo(self):
        book = filled()
        book.drop("f")
        book.undo()
        book.undo()
        self.assertEqual(book.state("f"), "open")
        book.say("g", SQUARE)
        self.assertIs(book.undo(), True)
        self.assertEqual(book.all_names(), list("abcdef"))
        book.undo()
        self.assertEqual(book.all_names(), list("abcde"))
        book.say("f", HARD)
        self.assertEqual(book.claim("f"), HARD)


class Asks(BookCase):
    def test_all(self):
        book = filled()
        self.assertEqual(book.all_names(), list("abcdef"))
        self.assertEqual([book.state(name) for name in "adef"], ["shown", "shown", "open", "failed"])
        self.assertEqual((book.claim("e"), book.claim("f")), (HARD, FALSE))
        self.assertEqual([book.paper(name) for name in "aef"], [BY_SQUARE, None, None])
        self.assertEqual([book.where(name) for name in "aef"], [None, None, AT_ONE])
        self.assertEqual([book.leans(name) for name in "abcdef"], [[], ["a"], ["b"], ["a", "c"], [], []])
        self.assertEqual([book.all_leans(name) for name in "abcdef"], [[], ["a"], ["a", "b"], ["a", "b", "c"], [], []])
        self.assertEqual([book.leaning(name) for name in "abcdef"], [["b", "c", "d"], ["c", "d"], ["d"], [], [], []])

    def test_names_rise(self):
        book = Book()
        for name in ("b", "ab", "zz", "a", "aaaaaaaa"):
            book.say(name, SQUARE)
        self.assertEqual(book.all_names(), ["a", "aaaaaaaa", "ab", "b", "zz"])
        book.find("zz")
        book.show("b", ("step", known("zz")))
        book.show("a", ("step", known("b")))
        book.find("aaaaaaaa")
        book.show("ab", ("step", ("times", ("number", (1, 2)), ("sum", known("a"), known("aaaaaaaa")))))
        self.assertEqual(book.leaning("zz"), ["a", "ab", "b"])
        self.assertEqual(book.all_leans("ab"), ["a", "aaaaaaaa", "b", "zz"])
        self.assertEqual(book.leans("ab"), ["a", "aaaaaaaa"])

    def test_one_paper(self):
        book = filled()
        for name in "abcd":
            one = book.one_paper(name)
            self.assertEqual(leans_on(one), [])
            self.assertIs(shows(book.claim(name), one), True)
            self.assertEqual(one, book.one_paper(name=name))
        self.assertEqual([book.one_paper(name) for name in "ef"], [None, None])
        # It may be handed in again, and then leans on none.
        book.show("d", book.one_paper("d"))
        self.assertEqual((book.leans("d"), states(book)), ([], "ssssof"))
        book.drop("a")
        self.assertEqual(states(book), "oosof")
        # NAMEs in any order.
        book = Book()
        for name in "zmaqb":
            book.say(name, SQUARE)
        book.find("m")
        for name, other in ("zm", "az", "qa", "bq"):
            book.show(name, ("step", known(other)))
        self.assertIs(shows(SQUARE, book.one_paper("b")), True)

    def test_no_claim(self):
        for book in (Book(), filled()):
            for ask in (book.claim, book.state, book.paper, book.where, book.leans, book.all_leans, book.leaning, book.one_paper):
                for name in ("g", "aa", "abcdefgh"):
                    self.refused(NoClaim, name, ask, name)

    def test_asks_change_nothing(self):
        book = filled()
        ahead, entries, many = book_paper(book), book.calls(), book.deeds()
        book.all_names()
        for name in "abcdef":
            for ask in (book.claim, book.state, book.paper, book.where, book.leans, book.all_leans, book.leaning, book.one_paper):
                self.assertEqual(ask(name), ask(name=name))
        self.assertEqual((book_paper(book), book.calls(), book.deeds()), (ahead, entries, many))

    def test_lists_are_the_askers_own(self):
        book = filled()
        for ask in (
            book.all_names, lambda: book.leans("d"), lambda: book.all_leans("d"), lambda: book.leaning("a"), book.calls, lambda: book.calls(first=3),
            lambda: book_paper(book), lambda: book.leans("a"), lambda: book.all_leans("e"), lambda: book.leaning("f"), lambda: book.do([]),
        ):
            one, other = ask(), ask()
            self.assertIsInstance(one, list)
            self.assertIsNot(one, other)
            kept = list(one) if "do" not in repr(one) else None
            one.clear()
            one.append("x")
            if kept is not None:
                self.assertEqual(ask(), kept)


class Past(BookCase):
    def test_deeds_and_as_of(self):
        book = filled()
        self.assertEqual((Book().deeds(), book.deeds()), (0, 11))
        again = Book()
        steps = [lambda one, name=name, many=many: one.say(name, many_squares(2 ** many)) for many, name in enumerate("abcd")]
        steps.append(lambda one: one.show("a", BY_SQUARE))
        for many, step in enumerate(steps):
            self.assertEqual(book.as_of(many), again)
            self.assertEqual(book_paper(book.as_of(many=many)), book_paper(again))
            step(again)
        self.assertEqual(book.as_of(11), book)
        for many in (12, 13, 100):
            self.refused(NoDeed, many, book.as_of, many)
        self.refused(NoDeed, 1, Book().as_of, 1)
        self.assertEqual(Book().as_of(0), Book())
        self.assertTrue(issubclass(NoDeed, IndexError))

    def test_as_of_can_be_undone(self):
        book = filled()
        for many in range(12):
            part = book.as_of(many)
            self.assertEqual(part.deeds(), many)
            for left in reversed(range(many)):
                self.assertIs(part.undo(), True)
                self.assertEqual(part, book.as_of(left))
            self.assertIs(part.undo(), False)
        self.assertEqual(book.deeds(), 11)

    def test_as_of_counts_those_that_stand(self):
        book = filled()
        book.undo()
        book.undo()
        self.refused(NoDeed, 10, book.as_of, 10)
        book.drop("a")
        self.assertEqual(book.as_of(10).all_names(), list("bcde"))
        book.do([("drop", "b"), ("drop", "c")])
        self.assertEqual(book.as_of(11).all_names(), list("de"))
        self.assertEqual(book.as_of(10).all_names(), list("bcde"))

    def test_twin_and_as_of_are_apart(self):
        book = filled()
        for other in (book.twin(), book.as_of(11)):
            self.assertEqual(other, book)
            self.assertIsNot(other, book)
            self.assertEqual(other.deeds(), 11)
            other.drop("a")
            self.assertNotEqual(other, book)
            self.assertEqual(book.state("b"), "shown")
            other.undo()
            self.assertEqual(other, book)
            for _ in range(11):
                other.undo()
            self.assertEqual((len(other), len(book), book.deeds()), (0, 6, 11))
        twin = book.twin()
        book.drop("a")
        book.undo()
        book.undo()
        self.assertEqual((twin.deeds(), twin.state("f"), book.state("f")), (11, "failed", "open"))

    def test_books_are_apart(self):
        one, other = Book(), Book()
        one.say("a", SQUARE)
        self.assertEqual((len(other), other.calls(), other.deeds()), (0, [], 0))

    def test_calls(self):
        book = Book()
        self.assertEqual(book.calls(), [])
        book.say("a", SQUARE)
        self.assertEqual(book.calls(), [("in", "say"), ("out", "say")])
        book.find("a")
        book.show("a", BY_SQUARE)
        book.undo()
        with self.assertRaises(NoClaim):
            book.drop("b")
        with self.assertRaises(NoClaim):
            book.do([("change", "a", FALSE), ("fail", "a", AT_ONE), ("find", "b"), ("drop", "a")])
        words = [("in", "find"), ("out", "find"), ("in", "show"), ("out", "show"), ("in", "undo"), ("out", "undo"), ("in", "drop"), ("out", "drop")]
        within = [("in", "do"), ("in", "change"), ("out", "change"), ("in", "fail"), ("out", "fail"), ("in", "find"), ("out", "find"), ("out", "do")]
        told = [("in", "say"), ("out", "say")] + words + within
        self.assertEqual(book.calls(), told)
        for first in range(len(told) + 3):
            self.assertEqual(book.calls(first=first), told[first:])
        # Undo where there's nothing to undo, and do of nothing.
        book = Book()
        book.undo()
        book.do([])
        self.assertEqual(book.calls(), [("in", "undo"), ("out", "undo"), ("in", "do"), ("out", "do")])
        with self.assertRaises(TypeError):
            book.calls(1)
        for other in (book.twin(), book.as_of(0), filled().as_of(5), filled().twin()):
            self.assertEqual(other.calls(), [])
        other = filled().twin()
        other.undo()
        self.assertEqual(other.calls(), [("in", "undo"), ("out", "undo")])
        self.assertTrue(all(isinstance(entry, tuple) for entry in book.calls()))


class Same(BookCase):
    def test_equal(self):
        self.assertTrue(Book() == Book())
        self.assertFalse(Book() != Book())
        self.assertTrue(filled() == filled())
        # By other deeds, in another order, with other calls.
        one, other = Book(), Book()
        for name in "ab":
            one.say(name, SQUARE)
        other.do([("say", "b", SQUARE), ("say", "c", HARD), ("say", "a", SQUARE)])
        other.drop("c")
        self.assertTrue(one == other)
        one.find("e") if "e" in one.all_names() else one.find("a")
        self.assertTrue(one != other)
        other.show("a", one.paper("a"))
        self.assertTrue(one == other)

    def test_unlike(self):
        for change in (
            lambda book: book.drop("e"), lambda book: book.say("g", HARD), lambda book: book.change("e", SQUARE), lambda book: book.change("f", FALSE),
            lambda book: book.fail("f", (("x", (2, 1)),)), lambda book: book.show("d", times(8, known("a"))), lambda book: book.change("d", many_squares(8)),
            lambda book: book.fail("f", AT_ONE + (("y", (0, 1)),)), lambda book: (book.drop("e"), book.say("g", HARD)), lambda book: book.change("e", (HARD[0][::-1], HARD[1])),
        ):
            book = filled()
            change(book)
            self.assertFalse(book == filled())
            self.assertTrue(book != filled())

    def test_other_things(self):
        for thing in (None, 0, "", [], {}, (), "Book(0)", [{}]):
            self.assertFalse(Book() == thing)
            self.assertTrue(Book() != thing)

    def test_deep_papers(self):
        book = Book()
        paper = BY_SQUARE
        names = "abcdefghijkl"
        for at, name in enumerate(names):
            book.say(name, SQUARE)
            step = known(names[at - 1]) if at else ("square", form_from("1*x"))
            for _ in range(65):
                step = ("times", ("number", (1, 1)), ("sum", ("number", (0, 1)), step))
            paper = ("cases", form_from("1*x"), ("step", step), paper) if at % 2 else ("step", step)
            book.show(name, paper)
        one = book.one_paper("l")
        self.assertIs(shows(SQUARE, one), True)
        for many in range(6):
            one = ("first", SQUARE, one, ("step", ("use", 0, ())))
            for at in range(150):
                # Other unlike NAMEs each time: what an order adds isn't the same turned about.
                letters = "abcdef"[many] + "abcdefghij"[at // 15] + "abcdefghijklmno"[at % 15]
                one = ("order", ("y" + letters, "z" + letters), one)
            book.show("a", one)
            one = book.one_paper("b")
        anew = Book()
        for name in names:
            anew.say(name, nested_list(SQUARE))
            anew.show(name, ("order", ("y", "z"), book.paper(name)))
        self.assertTrue(anew != book)
        for name in names:
            anew.show(name, book.paper(name))
        self.assertTrue(anew == book)
        self.assertIs(shows_book(book, book_paper(anew)), True)
        book.change("a", SQUARE)
        self.assertEqual(states(book), "o" * 12)

    def test_len_and_repr(self):
        self.assertEqual((len(Book()), repr(Book())), (0, "Book(0)"))
        book = Book()
        book.say("a", SQUARE)
        book.say("b", SQUARE)
        self.assertEqual((len(book), repr(book)), (2, "Book(2)"))
        self.assertEqual((len(filled()), repr(filled())), (6, "Book(6)"))

    def test_book_paper(self):
        book = filled()
        told = book_paper(book=book)
        self.assertIsInstance(told, list)
        self.assertEqual(told, [
            ("a", many_squares(1), "shown", BY_SQUARE), ("b", many_squares(2), "shown", times(2, known("a"))), ("c", many_squares(4), "shown", times(2, known("b"))),
            ("d", many_squares(8), "shown", book.paper("d")), ("e", HARD, "open", None), ("f", FALSE, "failed", AT_ONE),
        ])
        self.assertEqual(book_paper(Book()), [])

    def test_shows_book(self):
        book = filled()
        told = book_paper(book)
        self.assertIs(shows_book(book, told), True)
        self.assertIs(shows_book(book=book, thing=copy.deepcopy(told)), True)
        self.assertIs(shows_book(Book(), []), True)
        self.assertIs(shows_book(Book(), ()), False)
        self.assertIs(shows_book(Book(), told), False)
        for thing in (
            [], told[1:], told[:-1], told + told[:1], told[::-1], told + [("g", HARD, "open", None)], tuple(told), [list(row) for row in told],
            [row[:3] for row in told], [row + (None,) for row in told], [told[0]] * 6, nested_list(told), dict.fromkeys("abcdef"),
        ):
            self.assertIs(shows_book(book, thing), False)
        for thing in THINGS:
            self.assertIs(shows_book(book, thing), False)
            self.assertIs(shows_book(Book(), thing), thing == [] and isinstance(thing, list))
            self.assertIs(shows_book(book, told[:-1] + [thing]), False)
            for at in range(4):
                row = told[5][:at] + (thing,) + told[5][at + 1:]
                self.assertIs(shows_book(book, told[:-1] + [row]), False)
                row = told[4][:at] + (thing,) + told[4][at + 1:]
                self.assertIs(shows_book(book, told[:4] + [row] + told[5:]), at == 3 and thing is None)

    def test_shows_book_with_one_thing_otherwise(self):
        book = filled()
        told = book_paper(book)
        for at, row in enumerate(told):
            for other in otherwise(row):
                self.assertIs(shows_book(book, told[:at] + [other] + told[at + 1:]), False)
        self.assertEqual(told, book_paper(book))


def otherwise(thing):
    """The thing with one part in it otherwise, in all ways: True for 1 and a list for a tuple among them."""
    if isinstance(thing, tuple):
        yield list(thing)
        for at, part in enumerate(thing):
            for other in otherwise(part):
                yield thing[:at] + (other,) + thing[at + 1:]
        yield thing + (0,)
    elif isinstance(thing, int):
        yield from (thing + 1, bool(thing), str(thing))
    else:
        yield from ("other", 0, ()) if thing is None else (thing + "a", None, (thing,))


class Lists(BookCase):
    def test_lists_are_kept_as_tuples(self):
        book, other = Book(), Book()
        for deed in (
            ("say", "a", SQUARE), ("say", "b", HARD), ("show", "a", BY_SQUARE), ("say", "c", FALSE), ("fail", "c", AT_ONE), ("change", "b", (HARD[0][:1], HARD[1])),
            ("say", "d", SQUARE), ("show", "d", ("first", SQUARE, ("step", known("a")), ("step", ("use", 0, ())))),
        ):
            handed = nested_list(deed)
            getattr(book, deed[0])(*handed[1:])
            other.do([handed])
            self.assertEqual(handed, nested_list(deed))
        self.assertEqual(book, other)
        told = book_paper(book)
        self.assertFalse(has_list(tuple(told)))
        for name in "abcd":
            self.assertFalse(has_list((book.claim(name), book.paper(name), book.where(name), book.one_paper(name))))
        self.assertIs(shows_book(book, told), True)
        third = Book()
        third.do(nested_list([("say", "a", SQUARE), ("find", "a")]))
        self.assertFalse(has_list(tuple(book_paper(third))))

    def test_what_was_handed_in_and_is_changed_later(self):
        book = Book()
        claim, paper, place, false = nested_list(SQUARE), nested_list(BY_SQUARE), nested_list(AT_ONE), nested_list(FALSE)
        book.say("a", claim)
        book.show("a", paper)
        book.say("b", false)
        book.fail("b", place)
        deeds = [["say", "c", claim], ["show", "c", paper]]
        book.do(deeds)
        ahead = copy.deepcopy(book_paper(book))
        for handed in (claim[1], claim, paper[1], paper, place[0], place, false[1], false, deeds):
            handed.clear()
        self.assertEqual(book_paper(book), ahead)
        self.assertEqual(states(book), "sfs")
        told = book_paper(book)
        told[0] = None
        self.assertEqual(book_paper(book), ahead)


class Plain:
    """A plain account of a book: rows by NAMEs, and the rows ahead of each deed."""

    def __init__(self):
        self.rows = {}
        self.past = []

    def leans(self, name):
        return leans_on(self.rows[name][2]) if self.rows[name][1] == "shown" else []

    def under(self, name):
        """All on which it leans, straight or through others."""
        found = set()
        for other in self.leans(name):
            found |= {other} | (self.under(other) if other in self.rows else set())
        return found

    def leaning(self, name):
        return sorted(other for other in self.rows if name in self.under(other))

    def carried(self, word, name, what=None):
        """What the deed tells, or its refusal."""
        if word == "say":
            if name in self.rows:
                return "Known", name
            self.rows[name] = [what, "open", None]
            return None
        if name not in self.rows:
            return "NoClaim", name
        return getattr(self, word)(name, what)

    def show(self, name, paper):
        claim, state, _ = self.rows[name]
        leans = leans_on(paper)
        if state == "failed":
            return "Settled", name
        if any(other == name or other in self.rows and name in self.under(other) for other in leans):
            return "Ring", name
        for other in leans:
            if other not in self.rows or self.rows[other][1] != "shown":
                return "NotShown", other
        if not shows(claim, paper, known=[(other, self.rows[other][0]) for other in leans]):
            return "BadPaper", name
        self.rows[name] = [claim, "shown", paper]
        return None

    def fail(self, name, place):
        claim = self.rows[name][0]
        try:
            if not fails_at(claim, place):
                return "BadPlace", name
        except NoWorth:
            return "BadPlace", name
        self.rows[name] = [claim, "failed", place]
        return None

    def find(self, name, _):
        claim, state, _ = self.rows[name]
        if state == "open":
            told = seek(claim)
            if told is not None:
                self.rows[name] = [claim, {"shown": "shown", "fails": "failed"}[told[0]], told[1]]
        return self.rows[name][1]

    def change(self, name, claim):
        for other in self.leaning(name):
            self.rows[other] = [self.rows[other][0], "open", None]
        self.rows[name] = [claim, "open", None]
        return None

    def drop(self, name, _):
        self.change(name, None)
        del self.rows[name]
        return None

    def kept(self):
        return [(name, *self.rows[name]) for name in sorted(self.rows)]


class LongDays(BookCase):
    NAMES = "abcdefghijkl"

    def drawn_deed(self, drawer):
        word = drawer.chance.choice(("say",) * 4 + ("show",) * 8 + ("find",) * 3 + ("fail",) * 2 + ("change", "drop"))
        name = drawer.chance.choice(self.NAMES)
        if word in ("say", "change"):
            claim = drawer.chance.choice([many_squares(many) for many in (1, 2, 4, 1, 2, 4, -1)] + [HARD])
            return word, name, claim
        if word == "show":
            one, other = drawer.chance.choice(self.NAMES), drawer.chance.choice(self.NAMES)
            return word, name, drawer.chance.choice((
                BY_SQUARE, BY_GIVEN, times(2, known(one)), ("step", known(one)), ("step", ("sum", known(one), known(other))),
                ("first", SQUARE, BY_SQUARE, ("step", ("times", known(one), ("number", (1, 1))))), ("part", (2, 1), ("number", (0, 1)), known(one)),
                ("step", known(one, ("given", 0), ("given", 1))), ("cases", form_from("1*x"), ("step", known(one)), ("step", known(other))),
            ))
        if word == "fail":
            return word, name, drawer.chance.choice((AT_ONE, (), (("x", (0, 1)),), (("x", (-1, 1)), ("y", (1, 1)))))
        return word, name

    def done(self, book, deed):
        try:
            return getattr(book, deed[0])(*deed[1:])
        except (Known, NoClaim, Settled, Ring, NotShown, BadPaper, BadPlace) as refusal:
            return refusal.__class__.__name__, refusal.name

    def compare(self, book, plain):
        self.assertEqual(book_paper(book), plain.kept())
        self.assertEqual((book.all_names(), len(book)), (sorted(plain.rows), len(plain.rows)))
        for name in plain.rows:
            self.assertEqual(book.leans(name), plain.leans(name))
            self.assertEqual(book.all_leans(name), sorted(plain.under(name)))
            self.assertEqual(book.leaning(name), plain.leaning(name))
            one = book.one_paper(name)
            self.assertEqual(one is not None, plain.rows[name][1] == "shown")
            if one is not None:
                self.assertEqual(leans_on(one), [])
                self.assertIs(shows(plain.rows[name][0], one), True)

    def test_days(self):
        told_ones = set()
        for seed in range(12):
            drawer = Drawer(f"day {seed}")
            book, plain, past = Book(), Plain(), []
            entries = 0
            while len(past) < 60:
                deed = self.drawn_deed(drawer)
                ahead = copy.deepcopy(plain.rows)
                told = plain.carried(*deed)
                self.assertEqual(self.done(book, deed), told)
                entries += 2
                told_ones.add(told if told is None or isinstance(told, str) else told[0])
                if told is None or isinstance(told, str):
                    past.append(ahead)
                else:
                    self.assertEqual(plain.rows, ahead)
                if drawer.number(0, 9) == 0 and past:
                    self.assertIs(book.undo(), True)
                    plain.rows = past.pop()
                    entries += 2
                self.assertEqual(book.deeds(), len(past))
                self.compare(book, plain) if drawer.number(0, 5) == 0 else self.assertEqual(book_paper(book), plain.kept())
            self.assertEqual(len(book.calls()), entries)
            self.made_anew(book)
            self.undone(book, plain, past)
        self.assertLessEqual({None, "Known", "NoClaim", "Settled", "Ring", "NotShown", "BadPaper", "BadPlace", "shown", "failed", "open"}, told_ones)

    def made_anew(self, book):
        """A book made anew of what stands tells the same."""
        anew = Book()
        waiting = book_paper(book)
        for name, claim, state, what in waiting:
            anew.say(name, claim)
        while waiting:
            row = waiting.pop(0)
            name, claim, state, what = row
            if state == "failed":
                anew.fail(name, what)
            elif state == "shown" and not all(anew.state(other) == "shown" for other in leans_on(what)):
                waiting.append(row)
            elif state == "shown":
                anew.show(name, what)
        self.assertEqual(anew, book)
        for name in book.all_names():
            self.assertEqual((anew.leans(name), anew.all_leans(name), anew.leaning(name)), (book.leans(name), book.all_leans(name), book.leaning(name)))

    def undone(self, book, plain, past):
        """Each deed undone again, by undo and by as_of."""
        other = book.twin()
        while past:
            plain.rows = past.pop()
            part = book.as_of(len(past))
            self.assertIs(other.undo(), True)
            self.assertEqual(book_paper(other), plain.kept())
            self.assertEqual(part, other)
            self.assertEqual(part.deeds(), len(past))
        self.assertIs(other.undo(), False)

    def test_days_by_do(self):
        for seed in range(6):
            drawer = Drawer(f"do {seed}")
            book, plain = Book(), Plain()
            for _ in range(30):
                deeds = [self.drawn_deed(drawer) for _ in range(drawer.number(0, 4))]
                ahead, told, refusal = copy.deepcopy(plain.rows), [], None
                for deed in deeds:
                    one = plain.carried(*deed)
                    if isinstance(one, tuple):
                        refusal = one
                        break
                    told.append(one)
                if refusal:
                    plain.rows = ahead
                self.assertEqual(self.done(book, ("do", deeds)), refusal if refusal else told)
                self.assertEqual(book_paper(book), plain.kept())


if __name__ == "__main__":
    unittest.main()
