"""Polynomials as texts."""

from branchdepth.errors import NoText
from branchdepth.polys import without_noughts_behind

FIGURES = "0123456789"
MOST_FIGURES = 60
MOST_POWER = 12


def number_text(k):
    """A whole number in figures, however many."""
    if k < 0:
        return "-" + number_text(-k)
    # Python writes no more than some thousand figures at once, so they are written in pieces.
    great = 10 ** 64
    pieces = []
    while k >= great:
        k, low = divmod(k, great)
        pieces.append(str(low).zfill(64))
    pieces.append(str(k))
    pieces.reverse()
    return "".join(pieces)


def is_figures(text):
    """Whether a text is one to sixty figures and nothing else."""
    return 1 <= len(text) <= MOST_FIGURES and all([sign in FIGURES for sign in text])


def term_text(k, power):
    """A term with a coefficient from 1 on."""
    if power == 0:
        return number_text(k)
    letter = "x" if power == 1 else f"x^{power}"
    return letter if k == 1 else f"{number_text(k)}*{letter}"


def written(f):
    """The text of a polynomial."""
    if f == []:
        return "0"
    told = "-" if f[-1] < 0 else ""
    for power in reversed(range(len(f))):
        if power < len(f) - 1 and f[power] != 0:
            told = told + (" - " if f[power] < 0 else " + ")
        if f[power] != 0:
            told = told + term_text(abs(f[power]), power)
    return told


def read_figures(text):
    """The number that a text of figures stands for."""
    if not is_figures(text):
        raise NoText("this is no number of one to sixty figures")
    return int(text)


def read_term(word):
    """The tuple (coefficient, power) that a word stands for, were there `*` and `^` where they should be."""
    ahead, letter, behind = word.partition("x")
    if letter == "":
        return (read_figures(word), 0)
    number = 1 if ahead == "" else read_figures(ahead[:-1])
    power = 1 if behind == "" else read_figures(behind[1:])
    if power > MOST_POWER:
        raise NoText("powers are at most 12")
    return (number, power)


def read_words(words):
    """The polynomial of a list of signs and terms in turn."""
    numbers = [0] * (MOST_POWER + 1)
    for at in range(0, len(words), 2):
        number, power = read_term(words[at + 1])
        numbers[power] += -number if words[at] == "-" else number
    return without_noughts_behind(numbers)


def read_polynomial(text):
    """The polynomial that is written so, of any thing."""
    if not isinstance(text, str):
        raise NoText("this is no text")
    words = ["-"] + text[1:].split(" ") if text.startswith("-") else ["+"] + text.split(" ")
    if len(words) % 2 == 1:
        raise NoText("signs and terms don't stand in turn")
    told = read_words(words)
    # Whatever else is not as it should be, signs and noughts and the order, is otherwise when it is written again.
    if written(told) != text:
        raise NoText("the polynomial is written otherwise")
    return told
