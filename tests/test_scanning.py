"""Tokens of texts (points 178 to 180)."""

import random
import string
import unittest

from backseen.errors import TextError
from backseen.scanning import scan
import oddities
import texts
from texts import NAMES, plain_scan

chance = random.Random(178)
NONE_BEGINS, NO_NAME, DIGITS = texts.NONE_BEGINS, texts.NO_NAME, texts.DIGITS


def told(text):
    try:
        return scan(text)
    except TextError as error:
        return error.column, error.problem


class Scanning(unittest.TestCase):
    def test_point_180_texts_of_all_kinds_of_pieces(self):
        pieces = NAMES + ["a", "-", "abz", "zz", "0", "0123", "9999", "10000", "12345"] + list(":,;*| ") + ["  "]
        pieces += ["SAMPLES", "SAM", "A", "MUSTNOT", "--", "a-", "-a"]
        pieces += ["\t", "\r", ".", "_", "\u00e9", "\u0660", "\u00c4"]
        problems = {}
        for many in (0, 1, 2, 3, 5, 9):
            for _ in range(500):
                text = "".join(chance.choice(pieces[:-12] if chance.random() < 0.9 else pieces) for _ in range(many))
                expected = plain_scan(text)
                self.assertEqual(told(text), expected)
                problems[expected[1] if isinstance(expected, tuple) else None] = True
        self.assertEqual(set(problems), {None, NONE_BEGINS, NO_NAME, DIGITS})

    def test_point_180_each_character_alone(self):
        tokens = {"-": "word", **dict.fromkeys(string.ascii_lowercase, "word")}
        tokens.update(dict.fromkeys(string.digits, "number"))
        tokens.update(dict.fromkeys(":,;*|", "sign"))
        signs = [chr(code) for code in range(300)] + ["\u0660", "\u2003", "\u3000", "\ud800", "\U0001f600", "\u00b2"]
        for sign in signs:
            if sign == "\n":
                self.assertTrue(oddities.is_refused(scan, (sign,), "text"))
            elif sign == " ":
                self.assertEqual(scan(sign), [("end", "", 1)])
            elif sign in tokens:
                self.assertEqual(scan(sign), [(tokens[sign], sign, 0), ("end", "", 1)])
            else:
                problem = NO_NAME if "A" <= sign <= "Z" else NONE_BEGINS
                self.assertEqual(told(sign), (0, problem))
                self.assertEqual(told(" a,0 " + sign), (5, problem))

    def test_point_180_names(self):
        for name in NAMES:
            self.assertEqual(scan(name), [("name", name, 0), ("end", "", len(name))])
            for other in (name[:-1], name + "S", name * 2, "X" + name):
                if other not in NAMES:
                    self.assertEqual(told("a " + other), (2, NO_NAME))
            self.assertEqual(told(name.lower())[0], ("word", name.lower(), 0))
        self.assertEqual([token[1] for token in scan("ON IN:MUST*a0b1PAPER1 -RAISE")][:-1],
                         ["ON", "IN", ":", "MUST", "*", "a", "0", "b", "1", "PAPER", "1", "-", "RAISE"])

    def test_point_180_as_long_as_possible(self):
        self.assertEqual(scan("ab-ba--")[:-1], [("word", "ab", 0), ("word", "-", 2), ("word", "ba", 3),
                                                ("word", "-", 5), ("word", "-", 6)])
        self.assertEqual(scan("0000 12a34")[:-1], [("number", "0000", 0), ("number", "12", 5), ("word", "a", 7),
                                                   ("number", "34", 8)])
        for digits in ("0", "12", "007", "9999", "0000"):
            self.assertEqual(scan(digits)[0], ("number", digits, 0))
        for digits in ("00000", "12345", "1" * 20000):
            self.assertEqual(told(digits), (0, DIGITS))
            self.assertEqual(told("a" + digits[:300]), (1, DIGITS))

    def test_point_180_the_problem_with_the_least_column(self):
        self.assertEqual(told("a . X 12345"), (2, NONE_BEGINS))
        self.assertEqual(told("a X . 12345"), (2, NO_NAME))
        self.assertEqual(told("a 12345 X ."), (2, DIGITS))
        self.assertEqual(told("12345X."), (0, DIGITS))
        self.assertEqual(told("X12345"), (0, NO_NAME))

    def test_point_179_texts_of_20000_characters_and_more(self):
        self.assertEqual(scan("a" * 20000), [("word", "a" * 20000, 0), ("end", "", 20000)])
        self.assertEqual(scan(" " * 20000), [("end", "", 20000)])
        self.assertEqual(len(scan("-" * 20000)), 20001)
        self.assertEqual(told(" " * 19999 + "."), (19999, NONE_BEGINS))
        for text in ("a" * 20001, " " * 20001, "." * 20001):
            self.assertTrue(oddities.is_refused(scan, (text,), "text"))
        for text in ("\n", "a\nb", "a\n", "\na", ".\n", "X \n"):
            self.assertTrue(oddities.is_refused(scan, (text,), "text"))

    def test_points_179_and_180_the_end(self):
        for text, column in (("", 0), ("   ", 3), ("a ", 2), (" a", 2), ("ON  ", 4)):
            self.assertEqual(scan(text)[-1], ("end", "", column))

    def test_points_179_and_8_values_of_any_kind(self):
        for odd in oddities.oddities() + [None, 0, 1, ("a",), ["a"], ("a", 0)]:
            if type(odd) is str and len(odd) <= 20000 and "\n" not in odd:
                self.assertIn(told(odd), ((0, NONE_BEGINS), (0, NO_NAME)))
            else:
                self.assertTrue(oddities.is_refused(scan, (odd,), "text"))

    def test_point_2_lists_are_new(self):
        one = scan("a b")
        one.append(None)
        one[0] = None
        self.assertEqual(scan("a b"), [("word", "a", 0), ("word", "b", 2), ("end", "", 3)])
        self.assertIs(type(scan("a")), list)


if __name__ == "__main__":
    unittest.main()
