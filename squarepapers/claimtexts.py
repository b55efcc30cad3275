"""The texts of claims and places, written and read."""

from squarepapers.claims import is_claim
from squarepapers.errors import BadText
from squarepapers.forms import form_in, form_text
from squarepapers.fractions import fraction_in, fraction_text
from squarepapers.places import is_place

FLOOR = " >= 0"
WHERE = " where "


def claim_text(claim):
    """The claim's text, as `1*x >= 0 where 1*x*y >= 0, 1*y >= 0`."""
    conditions, goal = claim
    text = form_text(goal) + FLOOR
    if not conditions:
        return text
    return text + WHERE + ", ".join([form_text(condition) + FLOOR for condition in conditions])


def claim_in(text):
    """The claim whose text it is; BadText(0) of other texts."""
    front, word, behind = text.partition(WHERE)
    parts = behind.split(", ") if word else []
    claim = (tuple([floored_form(part) for part in parts]), floored_form(front))
    # A claim has no more than so many conditions.
    if not is_claim(claim):
        raise BadText(0)
    return claim


def floored_form(text):
    """The form that a text tells not to be below nought."""
    if not text.endswith(FLOOR):
        raise BadText(0)
    return form_in(text.removesuffix(FLOOR))


def place_text(place):
    """The place's text, as `x=1/2 y=3`, `-` of none."""
    if not place:
        return "-"
    return " ".join([f"{name}={fraction_text(worth)}" for name, worth in place])


def place_in(text):
    """The place whose text it is; BadText(0) of other texts."""
    if text == "-":
        return ()
    place = tuple([pair_in(word) for word in text.split(" ")])
    if not is_place(place):
        raise BadText(0)
    return place


def pair_in(text):
    """The pair that a text tells; its NAME is left to is_place."""
    name, sign, worth = text.partition("=")
    return (name, fraction_in(worth))
