"""Texts: whole numbers, Shares, dates and calendars, read from just those texts that are written of them."""

from meanmoon.calendars import Calendar
from meanmoon.dates import Date
from meanmoon.errors import NoText
from meanmoon.numerals import FIGURES, numeral
from meanmoon.shares import Share

WORDS = ("month", "year", "moon", "mark")


def figures(number, base=10):
    """Tell the figures of a whole number by a base from 2 to 16."""
    return numeral(number, base)


def number_in(text, base=10):
    """Tell the whole number that a text writes, or just any where it writes none."""
    # Whoever asks writes what was told, and looks whether that is the same text: so no sign needs a look here.
    number = 0
    for sign in text.removeprefix("-"):
        number = number * base + FIGURES.find(sign)
    return -number if text.startswith("-") else number


def read_figures(text, base=10):
    """Tell the whole number that a text writes by a base; refused where it writes none."""
    number = number_in(text, base)
    if numeral(number, base) != text:
        raise NoText(text)
    return number


def share_in(text):
    """Tell the Share that a text writes, or None."""
    upper, stroke, lower = text.partition("/")
    bottom = number_in(lower) if stroke == "/" else 1
    if bottom == 0:
        return None
    share = Share(number_in(upper), bottom)
    return share if str(share) == text else None


def read_share(text):
    """Tell the Share that a text writes in lowest terms; refused where it writes none."""
    share = share_in(text)
    if share is None:
        raise NoText(text)
    return share


def read_date(text):
    """Tell the Date that a text writes; refused where it writes none."""
    # From the end, since a year may have a - ahead.
    rest, dash, day = text.rpartition("-")
    year, dash, month = rest.rpartition("-")
    number = number_in(month.removesuffix("*"))
    date = Date(number_in(year), number, number_in(day), month.endswith("*"))
    if str(date) != text:
        raise NoText(text)
    return date


def read_calendar(text):
    """Tell the Calendar of a text of four lines, in any order; refused where it is none."""
    texts = texts_by_word(text)
    for word in WORDS:
        if word not in texts:
            raise NoText(word)
    shares = {}
    for word, behind in texts.items():
        share = share_in(behind)
        if share is None:
            raise NoText(f"{word} {behind}")
        shares[word] = share
    return Calendar(shares["month"], shares["year"], shares["moon"], shares["mark"])


def texts_by_word(text):
    """Tell of each line, by the word that leads it, what stands behind; refused where a line has no word of its own."""
    texts = {}
    for line in text.split("\n"):
        word, blank, behind = line.partition(" ")
        if blank == "" or word not in WORDS or word in texts:
            raise NoText(line)
        texts[word] = behind
    return texts
