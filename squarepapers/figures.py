"""Numbers in plain figures, of any length.

Python refuses to read or write a number of some thousand figures at once; what
was told may be that long, so both ways go by pieces of sixty.
"""


def are_figures(text):
    """Whether text is one figure or more, and nothing else."""
    return text != "" and all([sign in "0123456789" for sign in text])


def figures_of(number):
    """The figures of a number that isn't below nought."""
    pieces = []
    while number >= 10 ** 60:
        number, rest = divmod(number, 10 ** 60)
        pieces.append(str(rest).zfill(60))
    pieces.append(str(number))
    return "".join(reversed(pieces))


def number_in(figures):
    """The number that the figures write; noughts ahead are let."""
    first = len(figures) % 60
    number = int("0" + figures[:first])
    for at in range(first, len(figures), 60):
        number = number * 10 ** 60 + int(figures[at:at + 60])
    return number
