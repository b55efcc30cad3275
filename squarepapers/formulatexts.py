"""The texts of formulas, written and read."""

from squarepapers.errors import BadText
from squarepapers.figures import are_figures
from squarepapers.fractions import fraction_in, fraction_text
from squarepapers.kinds import is_name

SIGNS = {"plus": "+", "less": "-", "times": "*", "over": "/"}
WORDS = {"+": "plus", "-": "less", "*": "times", "/": "over"}
BRACKETED = ("number", "power")


def formula_text(formula):
    """The formula's text, as `root((x / 2))^3`."""
    word = formula[0]
    if word == "number":
        return fraction_text(formula[1])
    if word == "unknown":
        return formula[1]
    one = formula_text(formula[1])
    if word == "root":
        return f"root({one})"
    if word == "power":
        base = f"({one})" if formula[1][0] in BRACKETED else one
        return f"{base}^{formula[2]}"
    return f"({one} {SIGNS[word]} {formula_text(formula[2])})"


def formula_in(text):
    """The formula whose text it is; BadText(spot) at the first sign up to which no such text begins so."""
    reader = Reader(text)
    while True:
        formula = reader.closed(reader.leaf())
        if formula is not None:
            return formula


class Reader:
    """One text being read, sign by sign.

    The brackets that are open are kept in a list, so that a text may have more of
    them than calls may be nested. Each sign is passed only where some text goes on
    so: where one is refused, at is the spot to tell.
    """

    def __init__(self, text):
        self.text = text
        self.at = 0
        # Pairs: ("root", None), ("bracket", None), or, behind a sign of two, its word and what is ahead of it.
        self.opened = []

    def sign(self):
        """The next sign, an empty text at the end."""
        return self.text[self.at:self.at + 1]

    def pass_sign(self, sign):
        """Passes that sign; refused where another one is next, or none."""
        if self.sign() != sign:
            raise BadText(self.at)
        self.at += 1

    def leaf(self):
        """Opens brackets, up to a number or an unknown: that."""
        while True:
            if is_name(self.sign()):
                name = self.letters()
                if name != "root":
                    return ("unknown", name)
                self.pass_sign("(")
                self.opened.append(("root", None))
            elif self.sign() == "(":
                self.at += 1
                self.opened.append(("bracket", None))
            else:
                return ("number", self.number())

    def letters(self):
        """Passes the letters of one NAME; a ninth one is left, and nothing may follow so."""
        start = self.at
        while is_name(self.sign()) and self.at < start + 8:
            self.at += 1
        return self.text[start:self.at]

    def number(self):
        """Passes a fraction's text; the fraction."""
        start = self.at
        if self.sign() == "0":
            self.at += 1
            return (0, 1)
        if self.sign() == "-":
            self.at += 1
        self.figures()
        if self.sign() == "/":
            self.at += 1
            self.figures()
        try:
            return fraction_in(self.text[start:self.at])
        except BadText:
            # More figures could have made it one in lowest terms: refused is what stands behind them.
            raise BadText(self.at) from None

    def figures(self):
        """Passes figures, one or more, the first not 0."""
        if self.sign() == "0" or not are_figures(self.sign()):
            raise BadText(self.at)
        while are_figures(self.sign()):
            self.at += 1

    def closed(self, formula):
        """Closes what ends behind the formula: the whole at the text's end, None where a second one is due."""
        while True:
            if self.sign() == "^" and formula[0] not in BRACKETED:
                formula = self.power(formula)
            if not self.opened:
                if self.sign():
                    raise BadText(self.at)
                return formula
            word, front = self.opened.pop()
            if word == "bracket" and self.sign() == " ":
                self.opened.append((self.word_between(), formula))
                return None
            formula = self.ended(word, front, formula)

    def word_between(self):
        """Passes the sign of two formulas and the blanks around it; its word."""
        self.pass_sign(" ")
        sign = self.sign()
        if sign not in WORDS:
            raise BadText(self.at)
        self.at += 1
        self.pass_sign(" ")
        return WORDS[sign]

    def ended(self, word, front, formula):
        """Passes the bracket that ends behind the formula; what it ends."""
        if word == "bracket" and formula[0] not in BRACKETED:
            raise BadText(self.at)
        self.pass_sign(")")
        if word == "bracket":
            return self.power(formula)
        if word == "root":
            return ("root", formula)
        return (word, front, formula)

    def power(self, formula):
        """Passes the power's text; the formula to that power."""
        self.pass_sign("^")
        sign = self.sign()
        if sign not in ("0", "1", "2", "3", "4", "5", "6"):
            raise BadText(self.at)
        self.at += 1
        return ("power", formula, int(sign))
