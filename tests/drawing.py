"""What several tests draw or turn: the same each run."""
import random

from squarepapers.forms import names_of, number_form, plus_of, sum_of, term_in, times_of, unknown, weighed
from squarepapers.fractions import lowest
from squarepapers.places import is_place


def nested_list(thing):
    """The thing with a list for each tuple in it."""
    return [nested_list(part) for part in thing] if isinstance(thing, (tuple, list)) else thing


def has_list(thing):
    """Whether a list stands somewhere in thing."""
    if isinstance(thing, list):
        return True
    return isinstance(thing, tuple) and any(has_list(part) for part in thing)


class Drawer:
    """Draws numbers, fractions, forms, places from a seed."""

    def __init__(self, seed):
        self.chance = random.Random(seed)

    def number(self, low, high):
        return self.chance.randint(low, high)

    def fraction(self, most=6):
        return lowest(self.number(-most, most), self.number(1, 4))

    def above(self, most=6):
        return lowest(self.number(1, most), self.number(1, 4))

    def line(self, names):
        """A form of degree 1 at most."""
        form = number_form(self.fraction())
        for name in names:
            form = plus_of(form, weighed(unknown(name), self.fraction(3)))
        return form

    def form(self, names, degree, terms=6):
        """A form of that degree at most."""
        found = []
        for _ in range(terms):
            powers = {}
            for _ in range(self.number(0, degree)):
                name = self.chance.choice(names)
                powers[name] = powers.get(name, 0) + 1
            found.append((tuple(sorted(powers.items())), self.fraction()))
        return sum_of(found)

    def squares(self, names, many):
        """A weighed sum of so many squares of forms of degree 1."""
        form = ()
        for _ in range(many):
            line = self.line(names)
            form = plus_of(form, weighed(times_of(line, line), self.above()))
        return form

    def place(self, names, most=6):
        return tuple((name, self.fraction(most)) for name in sorted(names))


def form_from(text):
    """The form that a text tells, its terms in any order."""
    return sum_of([term_in(part) for part in text.split(" + ")])


def by_powers_of_x(*parts):
    """The form in x that has these parts, tops and bottoms, at its powers 0, 1, 2, .."""
    return sum_of([((("x", power),) if power else (), lowest(*part)) for power, part in enumerate(parts)])


def has_just_unknowns(place, form):
    return is_place(place) and [name for name, worth in place] == names_of(form)


# Things of any kind, none of which is rows, a place, noughts or a floor.
THINGS = (
    None, True, False, 0, 1, -1, "", "x", "squares", "least", (), [], ((),), [()], [[]], ([],), (0, 1), [(0, 1)],
    ("squares", []), ("fails", ()), ("least",), ("least", (0, 1)), ("falls", (), ()), (None, None), [None], (1, 2, 3),
    [(1, 1)], [((1, 1),)], (("x", (0, 1)),), [("x", (0, 1))], tuple(range(4000)), [[[[[[]]]]]], [True], (True, []), "a\nb",
)
