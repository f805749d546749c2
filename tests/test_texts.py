"""Tests of wagerroom.texts: point 110, the texts of fractions."""

import math
import unittest

from tests.helper import OTHER_KINDS, PromiseCase
from tests.test_ratios import NOT_FRACTIONS
from wagerroom import texts
from wagerroom.errors import InvalidFractionError, InvalidTextError
from wagerroom.ratios import is_valid_fraction
from wagerroom.texts import format_fraction, parse_fraction

HUGE = 10 ** 40

TEXTS = (
    ((0, 1), "0"),
    ((1, 1), "1"),
    ((-1, 1), "-1"),
    ((7, 1), "7"),
    ((10, 1), "10"),
    ((-1000, 1), "-1000"),
    ((1, 2), "1/2"),
    ((-1, 2), "-1/2"),
    ((2, 1), "2"),
    ((3, 2), "3/2"),
    ((-22, 7), "-22/7"),
    ((1, 10), "1/10"),
    ((999, 1000), "999/1000"),
    ((100, 101), "100/101"),
    ((9999999999999, 9999999999998), "9999999999999/9999999999998"),
    ((HUGE, 1), "1" + "0" * 40),
    ((-HUGE, HUGE + 1), "-1" + "0" * 40 + "/1" + "0" * 39 + "1"),
    ((10 ** 50, 1), "1" + "0" * 50),
    ((10 ** 50 - 1, 10 ** 50), "9" * 50 + "/1" + "0" * 50),
    ((10 ** 100 + 7, 1), "1" + "0" * 98 + "07"),
)

WRONG_TEXTS = (
    "",
    # Not in lowest terms, or with a bottom of 1 or 0.
    "2/4",
    "-2/4",
    "3/3",
    "6/3",
    "3/1",
    "-3/1",
    "1/1",
    "0/1",
    "0/5",
    "0/0",
    "1/0",
    "-1/0",
    # Signs.
    "-0",
    "-0/5",
    "+0",
    "+1",
    "+1/2",
    "--1",
    "-+1",
    "1-",
    "-",
    "+",
    "1/-2",
    "-1/-2",
    "1/+2",
    "-/2",
    "1/-",
    # Leading zeros.
    "00",
    "01",
    "-01",
    "01/2",
    "1/02",
    "007",
    # Slashes.
    "/",
    "//",
    "1/",
    "/2",
    "-/",
    "1//2",
    "1/2/",
    "/1/2",
    "1/2/3",
    "1/2/1",
    # Blanks and newlines.
    " ",
    "\n",
    " 1",
    "1 ",
    "1\n",
    "\n1",
    " 1/2",
    "1/2 ",
    "1/2\n",
    "\n1/2",
    "1 /2",
    "1/ 2",
    "1 / 2",
    "1\n/2",
    "1/\n2",
    "- 1",
    "1 2",
    "1 1/2",
    "1\n2",
    # Other ways to write a number.
    "1.0",
    "0.5",
    ".5",
    "1,000",
    "1_000",
    "1_0/3",
    "1e3",
    "0x1",
    "0b1",
    "1L",
    "a",
    "a/b",
    "1/b",
    "a/2",
    "one",
    "None",
    "nan",
    "inf",
    "(1, 2)",
    "1:2",
    "1/2 | 1/2",
    "1\\2",
    "\u00b2",
    "\u00bd",
    "\u0661",
    "1/\u0662",
    "\uff11",
    "/" * 600,
    "0" * 600,
    "-" * 600,
)


class FormatTest(PromiseCase):

    def test_examples(self):
        for value, text in TEXTS:
            self.gives(text, format_fraction, value)

    def test_wrong_values(self):
        for value in NOT_FRACTIONS:
            if not is_valid_fraction(value):
                self.refuses(InvalidFractionError, format_fraction, value)


class ParseTest(PromiseCase):

    def test_examples(self):
        for value, text in TEXTS:
            self.gives(value, parse_fraction, text)

    def test_wrong_texts(self):
        for text in WRONG_TEXTS:
            self.refuses(InvalidTextError, parse_fraction, text)

    def test_one_wrong_sign_in_each_place(self):
        for sign in " \n+_.,:|a":
            for place in range(6):
                text = "12/35"
                self.refuses(InvalidTextError, parse_fraction, text[:place] + sign + text[place:])

    def test_values_that_are_no_texts(self):
        for value in OTHER_KINDS + (0, 1, -1, (1, 2), ("1", "2"), ["1/2"], b"1/2", {"1/2": 1}):
            if not isinstance(value, str):
                self.refuses(InvalidTextError, parse_fraction, value)

    def test_other_texts(self):
        for value in OTHER_KINDS:
            if isinstance(value, str) and value not in ("0", "1/2"):
                self.refuses(InvalidTextError, parse_fraction, value)

    def test_long_texts(self):
        self.gives(((10 ** 600 - 1) // 9, 1), lambda: parse_fraction("1" * 600))
        self.refuses(InvalidTextError, parse_fraction, "1" * 300 + "/" + "1" * 300)


class ThereAndBackTest(PromiseCase):

    def test_small_fractions(self):
        for top in range(-30, 31):
            for bottom in range(1, 31):
                if math.gcd(top, bottom) == 1:
                    text = str(top) if bottom == 1 else f"{top}/{bottom}"
                    self.gives(text, format_fraction, (top, bottom))
                    self.gives((top, bottom), parse_fraction, text)
                else:
                    self.refuses(InvalidTextError, parse_fraction, f"{top}/{bottom}")

    def test_all_short_texts(self):
        signs = ("", "-", "/", "0", "1", "2", "4", " ")
        found = {""}
        for _ in range(4):
            found = {text + sign for text in found for sign in signs}
        for text in sorted(found):
            try:
                value = parse_fraction(text)
            except InvalidTextError:
                continue
            self.assertTrue(is_valid_fraction(value))
            self.assertEqual(format_fraction(value), text)

    def test_each_number_of_digits(self):
        for digits in range(1, 160):
            for number in (10 ** digits, 10 ** digits - 1, 10 ** digits + 3):
                self.gives(str(number), format_fraction, (number, 1))
                self.gives((-number, 1), parse_fraction, f"-{number}")

    def test_more_digits_than_python_converts(self):
        # Python refuses to convert more than 4,300 digits by itself.
        many = 20000
        large = 10 ** many
        for value, text in (
            ((large, 1), "1" + "0" * many),
            ((-large, large - 1), "-1" + "0" * many + "/" + "9" * many),
            ((3, large), "3/1" + "0" * many),
        ):
            # No messages that show the numbers: Python could not write them.
            self.assertTrue(format_fraction(value) == text)
            self.assertTrue(parse_fraction(text) == value)
        for text in ("2/1" + "0" * many, "0" * many, "1" + "0" * many + "/1", "-" + "0" * many):
            with self.assertRaises(InvalidTextError):
                parse_fraction(text)


class TextsInterfaceTest(PromiseCase):

    def test_names_and_parameters(self):
        self.has_interface(texts, {
            "format_fraction": "(value)",
            "parse_fraction": "(text)",
        })


if __name__ == "__main__":
    unittest.main()
