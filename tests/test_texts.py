import re
import unittest
from itertools import product

from restform.errors import NoText, TooGreat
from restform.polys import at, plus, times
from restform.texts import read, shown
from tests.samples import (
    OTHER_SIXTY, SIXTY, drawer, drawn_polynomial, figures, is_told_list, plain_at, polynomials, without_end,
)

SIGNS = [chr(code) for code in range(ord(" "), ord("~") + 1)]
TERM = r"(?:([1-9][0-9]{0,59})?(x)(?:\^([2-9]|10|11))?|([1-9][0-9]{0,59}))"
TEXTS = {
    "0": [], "-x": [0, -1], "1x": [0, 1], "11x^11 - 4": [-4] + [0] * 10 + [11], "x^2 + 3x": [0, 3, 1],
    "12x^3": [0, 0, 0, 12], "x": [0, 1], "1": [1], "-1": [-1], "x^2": [0, 0, 1], "-x^2": [0, 0, -1],
    "x^10": [0] * 10 + [1], "x^11": [0] * 11 + [1], "-1x^11": [0] * 11 + [-1], "10x - 10": [-10, 10],
    "x - 1": [-1, 1], "-x - 1": [-1, -1], "-x + 1": [1, -1], "1x^9 + 1x + 1": [1, 1] + [0] * 7 + [1],
    "9x^11 + x^10 - 2x^9 + 3x^8 - x^7 + 5x^6 - 6x^5 + 7x^4 - 8x^3 + 9x^2 - x + 100":
        [100, -1, 9, -8, 7, -6, 5, -1, 3, -2, 1, 9],
    f"{SIXTY}x^11 - {OTHER_SIXTY}": [-OTHER_SIXTY] + [0] * 10 + [SIXTY], f"-{SIXTY}": [-SIXTY], f"{SIXTY}": [SIXTY],
    f"-{SIXTY}x": [0, -SIXTY], f"x^2 + {10 ** 59}x": [0, 10 ** 59, 1],
}
NO_TEXTS = [
    "- x", "-0", "0x", "x + 0", "x^1", "x^02", "x^12", "2 x", "x +1", "x + -1", "1 + x", "x + x",
    "", " ", "  ", "-", "+", "^", "--x", "-+x", "+x", "+ x", "+1", " x", "x ", " 0", "0 ", "00", "01", "-01", "01x",
    "001", "0x^2", "x^0", "x^01", "x^002", "x^13", "x^20", "x^99", "x^100", "x^111", "x^11 1", "x^", "x^-2", "x^+2",
    "x^ 2", "x ^2", "x ^ 2", "x2", "2^x", "2^2", "xx", "x*x", "2*x", "2x3", "x^2^2", "x^2x", "X", "X^2", "y",
    "x^x", "x^2.0",
    "1.0", "1,000", "1_000", "1_0x", "x^1_1", "1e5", "0x1", "0b1", "1/2", "x/2", "(x)", "x + (1)", "x  + 1", "x +  1",
    "x + 1 ", " x + 1", "x + ", "x - ", "x +", "x -", "x + + 1", "x - - 1", "x + - 1", "x - +1", "x+1", "x-1", "x+ 1",
    "x 1", "x x", "x 1 + 1", "x * 1", "x ++ 1", "x +- 1", "x = 1", "x & 1", "x, 1", "x . 1", "0 + x", "0 + 1", "0 - x",
    "x - 0", "x + 0x", "x^2 + 0", "x^2 + 0x + 1", "-0x", "-00", "1 - x", "x + x^2", "x^2 + x^2", "x^2 - x^2", "x - x",
    "1 + 1", "5 - 5", "x^2 + x + x", "x^2 + x + x^2", "x^3 + x + x^2", "x^10 + x^11", "x^9 + x^10", "x^2 + x^10",
    "x + 1 + x", "x + 1 + 1", "x + 1 + 0", "-x + -1", "- 1", "-  x", "x - -1", "x - 1x^2", "x^11 + x^12", "x^12 + x",
    "None", "True", "[]", "[0, 1]", "~", "\"x\"", "'x'", "\\", "x^2 +x", "x^2+ x", "x^2 +\tx", "x\n", "\nx", "x +\n1",
    "0\n", "1\n", "-\n1", "1" * 61, "-" + "1" * 61, "1" * 61 + "x", "x + " + "1" * 61, "1" * 61 + "x^11", "9" * 1200,
    "0" * 1200, " " * 1200, "x" * 1200, "-" * 1200, "1" + "0" * 60, "0" + "1" * 59, "x + 0" + "1" * 59,
    " + ".join(["x"] * 300), "x" + " + 1" * 299,
]


def plain_read(line):
    """The document's own words: what a text says, or None for what is none."""
    if line == "0":
        return []
    if not re.fullmatch(f"-?{TERM}(?: [+-] {TERM})*", line):
        return None
    pieces = re.split(" ([+-]) ", line)
    first = pieces[0]
    pieces[0:1] = ["-", first[1:]] if first.startswith("-") else ["+", first]
    total, last = {}, 12
    for sign, term in zip(pieces[::2], pieces[1::2]):
        count, letter, power, alone = re.fullmatch(TERM, term).groups()
        power = 0 if letter is None else int(power or 1)
        if power >= last:
            return None
        last = power
        total[power] = int(sign + (alone or count or "1"))
    return [total.get(power, 0) for power in range(max(total) + 1)]


def plain_shown(some):
    terms = []
    for power, count in enumerate(some):
        letter = ["", "x"][power] if power < 2 else f"x^{power}"
        size = "" if abs(count) == 1 and power else str(abs(count))
        if count:
            terms.insert(0, (" - " if count < 0 else " + ") + size + letter)
    line = "".join(terms)
    if not line:
        return "0"
    return ("-" if line.startswith(" -") else "") + line[3:]


def drawn_text(draw):
    """A text, with counts of 1 ahead of x that may be written."""
    some = [draw.choice((0, 1, -1, draw.randrange(-99, 99), draw.randrange(-SIXTY, SIXTY)))
            for power in range(draw.randint(1, 12))]
    line = plain_shown(some)
    if draw.randrange(2):
        line = re.sub("(?<![0-9])x", "1x", line)
    return line


class Read(unittest.TestCase):
    def check(self, line):
        asked = plain_read(line)
        if asked is None:
            with self.assertRaises(NoText, msg=repr(line)):
                read(line)
            return False
        told = read(line)
        self.assertTrue(is_told_list(told), line)
        self.assertEqual(told, asked, line)
        self.assertEqual(shown(told), re.sub("(?<![0-9])1x", "x", line))
        return True

    def test_texts(self):
        for line, some in TEXTS.items():
            self.assertEqual(read(line), some, line)
            self.assertTrue(self.check(line), line)

    def test_no_texts(self):
        for line in NO_TEXTS:
            with self.assertRaises(NoText, msg=repr(line)):
                read(line)
            self.assertFalse(self.check(line), line)

    def test_all_short_texts(self):
        found = 0
        for size in range(7):
            for signs in product("01x^+- ", repeat=size):
                found += self.check("".join(signs))
        self.assertGreater(found, 100)

    def test_each_sign_alone_and_beside_others(self):
        for sign in SIGNS:
            for line in (sign, "x" + sign, sign + "x", "1" + sign, sign + "1", "x" + sign + "2", "1" + sign + "x",
                         "x " + sign + " 1", "x^" + sign, "x^1" + sign, "x^" + sign + "1", "x + " + sign, sign * 2,
                         "0" + sign, "-" + sign, "-x " + sign + " 2", "x^2 + x " + sign + " 1", "x^2 + " + sign + "x"):
                self.check(line)

    def test_one_sign_changed(self):
        draw = drawer(90)
        lines = [line for line in TEXTS if len(line) < 90] + [drawn_text(draw) for step in range(5)]
        for line in lines:
            for k in range(len(line) + 1):
                self.check(line[:k] + line[k + 1:])
                for sign in SIGNS:
                    self.check(line[:k] + sign + line[k:])
                    self.check(line[:k] + sign + line[k + 1:])

    def test_drawn_texts(self):
        draw = drawer(91)
        for step in range(2000):
            self.assertTrue(self.check(drawn_text(draw)))

    def test_terms_in_another_order(self):
        draw = drawer(92)
        for step in range(1000):
            terms = [draw.choice(("", "1", "2", "70")) + draw.choice(("x", "x^2", "x^3", "x^9", "x^10", "x^11"))
                     for count in range(draw.randint(1, 4))]
            if draw.randrange(2):
                terms.insert(draw.randrange(len(terms) + 1), "5")
            self.check(draw.choice(("", "-")) + draw.choice((" + ", " - ")).join(terms))

    def test_each_power(self):
        for power in range(-1, 120):
            for line in (f"x^{power}", f"-3x^{power}", f"x^{power} + x", f"x^0{power}"):
                self.assertEqual(self.check(line), 2 <= power <= 11 and "^0" not in line)

    def test_each_count_of_figures(self):
        for size in range(1, 71):
            for figure in "19":
                for line in ("{}", "-{}", "{}x", "x - {}", "{}x^11 + {}x + {}"):
                    self.assertEqual(self.check(line.replace("{}", figure * size)), size <= 60)
            self.assertFalse(self.check("0" * size + "1"))

    def test_the_longest_text(self):
        line = " - ".join([f"{SIXTY}x^{power}" for power in range(11, 1, -1)] + [f"{SIXTY}x", str(SIXTY)])
        self.assertEqual(read("-" + line), [-SIXTY] * 12)
        self.assertEqual(shown([-SIXTY] * 12), "-" + line)

    def test_figures_of_other_scripts(self):
        for line in ("\u0661", "\u00b2", "x^\u0662", "1\u0660x", "\uff11", "x\u00b2", "x \u2212 1", "x\u00a0+ 1"):
            with self.assertRaises(NoText):
                read(line)


class Shown(unittest.TestCase):
    def check(self, some):
        line = shown(some)
        self.assertIs(type(line), str)
        self.assertEqual(line, plain_shown(some))
        self.assertEqual(read(line), without_end(some))
        return line

    def test_written_out(self):
        for some, line in (
            ([], "0"), ([0], "0"), ([0] * 12, "0"), ([0] * 20, "0"), ([1], "1"), ([-1], "-1"), ([0, 1], "x"),
            ([0, -1], "-x"), ([1, 1], "x + 1"), ([-1, -1], "-x - 1"), ([0, 0, 1], "x^2"), ([0, 3, 1], "x^2 + 3x"),
            ([5, 0, -2], "-2x^2 + 5"), ([-4] + [0] * 10 + [11], "11x^11 - 4"), ([0, 0, 0, 12], "12x^3"),
            ([10, -10, 11, -11], "-11x^3 + 11x^2 - 10x + 10"),
            ([0] * 11 + [-1], "-x^11"), ([0] * 10 + [1], "x^10"), ([SIXTY], str(SIXTY)), ([0, -SIXTY], f"-{SIXTY}x"),
            ([0, 1, 0, 0], "x"), ([-1, 1], "x - 1"), ([1, -1], "-x + 1"),
        ):
            self.assertEqual(shown(some), line)
            self.check(some)

    def test_samples(self):
        for some in polynomials():
            self.check(some)

    def test_drawn(self):
        draw = drawer(93)
        for step in range(1000):
            self.check(drawn_polynomial(draw))
            self.check([draw.randrange(-2, 3) for power in range(draw.randint(0, 12))])

    def test_each_count_at_each_power(self):
        for power in range(12):
            for count in (1, -1, 2, -2, 9, 10, 11, -10, 100, SIXTY, -SIXTY, 10 ** 59, -10 ** 59, OTHER_SIXTY):
                self.check([0] * power + [count])
                self.check([7] + [0] * power + [count] if power < 11 else [7] + [0] * 10 + [count])

    def test_noughts_behind_the_twelfth_number(self):
        for some in ([], [1], [0, -1], figures(12, 7), [0] * 11 + [1]):
            for size in (1, 2, 12, 50):
                self.assertEqual(shown(some + [0] * size), shown(some))
                self.check(some + [0] * size)

    def test_the_same_text_the_same_numbers(self):
        draw = drawer(94)
        for step in range(200):
            some = drawn_polynomial(draw)
            for x in (0, 1, -1, 7, SIXTY):
                self.assertEqual(at(read(shown(some)), x), plain_at(some, x))

    def test_told_polynomials(self):
        self.check(plus([1, 2, 3], [0, -2]))
        self.check(times([1, 1], [-1, 1]))
        self.assertEqual(shown(times([1, 1], [-1, 1])), "x^2 - 1")


class TooGreatToBeShown(unittest.TestCase):
    def refuse(self, some):
        with self.assertRaises(TooGreat):
            shown(some)

    def test_power_above_eleven(self):
        for size in (12, 13, 20, 63):
            for count in (1, -1, SIXTY, 10 ** 60):
                self.refuse([0] * size + [count])
                self.refuse([1] * size + [count])
                self.refuse([0] * size + [count, 0, 0])

    def test_number_of_sixty_one_figures(self):
        for power in range(12):
            for count in (10 ** 60, 10 ** 60 + 1, 10 ** 61 - 1, 10 ** 61, 10 ** 300):
                for sign in (1, -1):
                    self.refuse([0] * power + [sign * count])
                    self.refuse([0] * power + [sign * count] + [1] * (11 - power))
                    self.refuse([0] * power + [sign * count] + [0] * 20)
            shown([0] * power + [SIXTY])
            shown([0] * power + [-SIXTY])

    def test_numbers_of_thousands_of_figures(self):
        great = at(figures(12, 7), 10 ** 500)
        self.assertGreater(abs(great), 10 ** 5000)
        self.refuse([great])
        self.refuse([0, -great, 1])

    def test_told_polynomials(self):
        self.refuse(times(figures(12, 7), [0, 1]))
        self.refuse(times([SIXTY], [SIXTY]))
        self.refuse(plus([SIXTY], [1]))


if __name__ == "__main__":
    unittest.main()
