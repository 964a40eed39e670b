"""Numerals: whole numbers by their figures."""

FIGURES = "0123456789abcdef"


def numeral(number, base=10):
    """Tell the figures of a whole number, with - ahead of those below 0."""
    # Figure by figure, since str refuses numbers of some thousand figures, and products may be so long.
    rest = abs(number)
    signs = [FIGURES[rest % base]]
    while rest >= base:
        rest = rest // base
        signs.append(FIGURES[rest % base])
    if number < 0:
        signs.append("-")
    return "".join(reversed(signs))
