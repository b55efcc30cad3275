"""The desk: sheets of rows that do deeds of a book and ask it."""

from squarepapers.book import Book
from squarepapers.claims import claim_of
from squarepapers.claimtexts import claim_in, claim_text, place_in, place_text
from squarepapers.errors import BadPlace, BadRow, BadText, Known, NoClaim
from squarepapers.formulatexts import formula_in
from squarepapers.kinds import is_name

BARE_WORDS = ("undo", "names")
NAME_WORDS = ("find", "drop", "state", "text", "place", "leaning")
DEED_WORDS = ("say", "change", "fail", "find", "drop")


def run(text):
    """The list of the rows' answers; BadRow of the first row that isn't written as rows are."""
    acts = []
    for at, row in enumerate(text.split("\n")):
        try:
            acts.append(act_in(row))
        except BadText:
            raise BadRow(at) from None
    book = Book()
    answers = []
    for act in acts:
        answers.append(answered(book, act))
    return answers


def act_in(row):
    """The tuple of the row's word and what it's handed; BadText of other rows."""
    word, blank, rest = row.partition(" ")
    if word in BARE_WORDS and not blank:
        return (word,)
    name, space, tail = rest.partition(" ")
    if not is_name(name):
        raise BadText(0)
    if word in NAME_WORDS and not space:
        return (word, name)
    if word == "claim":
        return ("say", name, claim_in(tail))
    if word == "fail":
        return ("fail", name, place_in(tail))
    if word in ("say", "change"):
        return (word, name, claim_under(tail))
    raise BadText(0)


def claim_under(text):
    """The claim of `A >= B`, and of what stands behind ` | `."""
    front, bar, behind = text.partition(" | ")
    under = [difference_in(part) for part in behind.split(", ")] if bar else []
    return claim_of(difference_in(front), under=under)


def difference_in(text):
    """The formula A less B of `A >= B`."""
    one, sign, other = text.partition(" >= ")
    return ("less", formula_in(one), formula_in(other))


def answered(book, act):
    """The answer of a row, refused or not."""
    try:
        return answer_of(book, act)
    except Known:
        return "refused Known"
    except NoClaim:
        return "refused NoClaim"
    except BadPlace:
        return "refused BadPlace"


def answer_of(book, act):
    """The answer of a row that isn't refused."""
    word = act[0]
    if word in DEED_WORDS:
        told = book.do([act])[0]
        return "ok" if told is None else told
    if word == "undo":
        return "yes" if book.undo() else "no"
    if word == "names":
        return listed(book.all_names())
    name = act[1]
    if word == "state":
        return book.state(name)
    if word == "text":
        return claim_text(book.claim(name))
    if word == "leaning":
        return listed(book.leaning(name))
    place = book.where(name)
    return "-" if place is None else place_text(place)


def listed(names):
    """The NAMEs by blanks, `-` of none."""
    return " ".join(names) if names else "-"
