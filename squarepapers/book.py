"""Books: claims by NAMEs, with what shows them or where they fail, kept over many deeds."""

from squarepapers.deeds import done, in_order, leaning_on, leans_of, reached_from, row_of
from squarepapers.errors import NoDeed
from squarepapers.kinds import are_alike, tupled
from squarepapers.makings import joined


class Book:
    """A book of claims, each open, shown with a paper, or failed with a place."""

    def __init__(self):
        # The rows ahead of all deeds, then behind each one that stands; none of them is changed later.
        self.past = [{}]
        self.entries = []

    def say(self, name, claim):
        """A new claim by that NAME, open."""
        return self.single("say", (name, tupled(claim)))

    def show(self, name, paper):
        """It's shown by that paper."""
        return self.single("show", (name, tupled(paper)))

    def fail(self, name, place):
        """It's failed by that place."""
        return self.single("fail", (name, tupled(place)))

    def find(self, name):
        """It's shown or failed by what the search tells, where it's open; how it then is."""
        return self.single("find", (name,))

    def change(self, name, claim):
        """That claim by that NAME, open; open too all that lean on it."""
        return self.single("change", (name, tupled(claim)))

    def drop(self, name):
        """It's gone; open are all that lean on it."""
        return self.single("drop", (name,))

    def do(self, deeds):
        """The deeds, one behind the other, as one; the list of what they tell."""
        rows = self.past[-1]
        told = []
        self.entries.append(("in", "do"))
        try:
            for word, *handed in tupled(deeds):
                rows, one = self.logged(rows, word, handed)
                told.append(one)
            self.past.append(rows)
        finally:
            self.entries.append(("out", "do"))
        return told

    def undo(self):
        """The last deed that stands is as if it hadn't been; whether there was one."""
        self.entries.append(("in", "undo"))
        is_one = self.deeds() > 0
        if is_one:
            self.past.pop()
        self.entries.append(("out", "undo"))
        return is_one

    def single(self, word, handed):
        """Does one deed by itself; what it tells."""
        rows, told = self.logged(self.past[-1], word, handed)
        self.past.append(rows)
        return told

    def logged(self, rows, word, handed):
        """What a deed makes of the rows, and tells; it's logged, refused or not."""
        self.entries.append(("in", word))
        try:
            made = done(rows, word, handed)
        finally:
            self.entries.append(("out", word))
        return made

    def triple(self, name):
        """The triple of claim, state and what there is of it."""
        return row_of(self.past[-1], name)

    def all_names(self):
        """The rising list of the NAMEs."""
        return sorted(self.past[-1])

    def claim(self, name):
        """The claim of that NAME."""
        return self.triple(name)[0]

    def state(self, name):
        """Its state: open, shown or failed."""
        return self.triple(name)[1]

    def paper(self, name):
        """Its paper, None where there's none."""
        claim, state, what = self.triple(name)
        return what if state == "shown" else None

    def where(self, name):
        """Its place, None where there's none."""
        claim, state, what = self.triple(name)
        return what if state == "failed" else None

    def leans(self, name):
        """The rising list of the NAMEs on which its paper leans."""
        self.triple(name)
        return leans_of(self.past[-1], name)

    def all_leans(self, name):
        """The rising list of those, and those through others."""
        return reached_from(self.past[-1], self.leans(name))

    def leaning(self, name):
        """The rising list of the NAMEs that lean on it, straight or through others."""
        self.triple(name)
        return leaning_on(self.past[-1], name)

    def one_paper(self, name):
        """A paper of a shown one by itself, that leans on nothing; None of others."""
        if self.state(name) != "shown":
            return None
        names = in_order(self.past[-1], self.all_leans(name) + [name])
        return joined([(other, self.claim(other), self.paper(other)) for other in names])

    def deeds(self):
        """How many deeds stand."""
        return len(self.past) - 1

    def as_of(self, many):
        """A book of its own as behind the first so many deeds that stand."""
        if not 0 <= many <= self.deeds():
            raise NoDeed(many)
        book = Book()
        book.past = self.past[:many + 1]
        return book

    def twin(self):
        """A book of its own as this one is."""
        return self.as_of(self.deeds())

    def calls(self, *, first=0):
        """The list of entries, from that number on: which deed began, which one ended."""
        return self.entries[first:]

    def __eq__(self, other):
        return isinstance(other, Book) and are_alike(book_paper(self), book_paper(other))

    def __len__(self):
        return len(self.past[-1])

    def __repr__(self):
        return f"Book({len(self.past[-1])})"


def book_paper(book):
    """The rising list of (NAME, claim, state, what), what the paper, the place or None."""
    found = []
    for name in book.all_names():
        claim, state, what = book.triple(name)
        found.append((name, claim, state, what))
    return found


def shows_book(book, thing):
    """Whether thing is just what book_paper tells of the book."""
    return are_alike(thing, book_paper(book))
