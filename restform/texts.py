"""Texts of polynomials: read and shown."""

from restform.errors import NoText, TooGreat
from restform.polys import trimmed

FIGURES = "0123456789"


# Sign by sign, since int would also take blanks, signs and figures of other scripts.
def number_written(text, longest):
    if len(text) < 1 or len(text) > longest or text[0] == "0":
        raise NoText("a number is written by some figures, the first one no nought")
    for sign in text:
        if sign not in FIGURES:
            raise NoText("a number is written by figures alone")
    return int(text)


def count_written(text):
    return number_written(text, 60)


def power_written(text):
    if text == "":
        return 1
    if not text.startswith("^"):
        raise NoText("behind x stands nothing, or ^ and a power")
    power = number_written(text[1:], 2)
    if power < 2 or power > 11:
        raise NoText("a written power is 2 to 11")
    return power


# A tuple of the count, without its sign, and the power.
def term_written(text):
    if "x" not in text:
        return (count_written(text), 0)
    parts = text.partition("x")
    count = 1
    if parts[0] != "":
        count = count_written(parts[0])
    return (count, power_written(parts[2]))


# Tuples of a sign and the text of its term; the first term gets the + that is not written.
def signs_and_terms(line):
    if line.startswith("-"):
        words = ["-"] + line[1:].split(" ")
    else:
        words = ["+"] + line.split(" ")
    if len(words) % 2 != 0:
        raise NoText("terms and signs take turns")
    found = []
    for k in range(0, len(words), 2):
        if words[k] not in ("+", "-"):
            raise NoText("between terms stand a blank, a sign and a blank")
        found.append((words[k], words[k + 1]))
    return found


def read(line):
    if line == "0":
        return []
    total = [0] * 12
    below = 12
    for sign, text in signs_and_terms(line):
        term = term_written(text)
        if term[1] >= below:
            raise NoText("powers fall from term to term")
        below = term[1]
        total[below] = -term[0] if sign == "-" else term[0]
    return trimmed(total)


def check_shown(some):
    if len(some) > 12:
        raise TooGreat("a power above 11 is not written")
    for count in some:
        if abs(count) >= 10 ** 60:
            raise TooGreat("a number of more than sixty figures is not written")


def shown_term(size, power):
    if power == 0:
        return str(size)
    letter = "x" if power == 1 else f"x^{power}"
    return letter if size == 1 else f"{size}{letter}"


def shown_sign(count, is_first):
    if is_first:
        return "-" if count < 0 else ""
    return " - " if count < 0 else " + "


def shown(some):
    kept = trimmed(some)
    check_shown(kept)
    line = ""
    for power in range(len(kept) - 1, -1, -1):
        count = kept[power]
        if count != 0:
            line += shown_sign(count, line == "") + shown_term(abs(count), power)
    return "0" if line == "" else line
