"""Names, words, numbers, steps and their texts."""

import re
import unittest

from tests.helper import LETTERS, ODD_VALUES, seeded
from tiedmoments.words import is_name, is_number, is_step, is_word, read_step, step_text

SIGNS = [chr(code) for code in range(32, 127) if chr(code) not in LETTERS] + ["\n", "\t", "\u00e9", "\u0660"]
DEEDS = [None, ("send", "m"), ("receive", "m"), ("send", "abcd"), ("receive", "zzzz"), ("send", "send")]
TEXT = re.compile("[a-z]{1,4}(=-?[1-9][0-9]?)?([!?][a-z]{1,4})?")


def plain_text(mark, number, deed):
    text = mark
    if number != 0:
        text += "=" + str(number)
    if deed is not None:
        text += {"send": "!", "receive": "?"}[deed[0]] + deed[1]
    return text


class NameTest(unittest.TestCase):

    def test_lengths(self):
        rng = seeded(1)
        for length in range(9):
            for text in ["a" * length, "z" * length, "".join(rng.choices(LETTERS, k=length))]:
                self.assertIs(is_name(text), 1 <= length <= 6, text)
                self.assertIs(is_word(text), 1 <= length <= 4, text)
                self.assertIs(is_name(value=text), 1 <= length <= 6, text)
                self.assertIs(is_word(value=text), 1 <= length <= 4, text)

    def test_every_letter(self):
        for letter in LETTERS:
            self.assertIs(is_name(letter), True)
            self.assertIs(is_word(letter), True)
            self.assertIs(is_name("abcde" + letter), True)
            self.assertIs(is_word("abc" + letter), True)

    def test_another_sign_at_each_position(self):
        for sign in SIGNS:
            for length in range(6):
                for at in range(length + 1):
                    text = "abcdef"[:at] + sign + "abcdef"[at:length]
                    self.assertIs(is_name(text), False, text)
                    self.assertIs(is_word(text), False, text)

    def test_other_values(self):
        for value in ODD_VALUES:
            if value != "abcdefg":
                self.assertIs(is_name(value), False, value)
            self.assertIs(is_word(value), False, value)
        self.assertIs(is_word("start"), False)
        self.assertIs(is_name("start"), True)


class NumberTest(unittest.TestCase):

    def test_at_and_next_to_the_bounds(self):
        for least, most in [(-99, 99), (0, 20), (0, 0), (1, 12), (-5, -3), (0, 5000), (3, 2)]:
            for value in range(least - 3, most + 4):
                self.assertIs(is_number(value, least, most), least <= value <= most, (value, least, most))
        self.assertIs(is_number(10 ** 9 - 1, 0, 10 ** 9), True)
        self.assertIs(is_number(10 ** 40, 0, 10 ** 9), False)

    def test_by_name(self):
        self.assertIs(is_number(value=3, least=1, most=3), True)
        self.assertIs(is_number(most=2, least=1, value=3), False)
        self.assertIs(is_number(1, most=3, least=1), True)

    def test_booleans_are_no_numbers(self):
        for least, most in [(0, 1), (-9, 9), (1, 1), (0, 0)]:
            self.assertIs(is_number(True, least, most), False)
            self.assertIs(is_number(False, least, most), False)

    def test_other_values(self):
        for value in ODD_VALUES + ["1", "0", (1,), [1]]:
            if not isinstance(value, int):
                self.assertIs(is_number(value, -10 ** 9, 10 ** 9), False, value)


class StepTest(unittest.TestCase):

    def test_steps(self):
        for mark in ["x", "ab", "abc", "done"]:
            for number in range(-99, 100):
                for deed in DEEDS:
                    self.assertIs(is_step((mark, number, deed)), True)
        self.assertIs(is_step(value=("x", 0, None)), True)

    def test_one_part_changed(self):
        for deed in DEEDS:
            for mark in ODD_VALUES + ["start", "abcde", "X", "x=", "x!m"]:
                self.assertIs(is_step((mark, 0, deed)), False, mark)
            for number in [-100, 100, 10 ** 9, None, True, False, "0", (), [], (0,), [0]]:
                self.assertIs(is_step(("x", number, deed)), False, number)
        for deed in [value for value in ODD_VALUES if value is not None]:
            self.assertIs(is_step(("x", 0, deed)), False, deed)

    def test_deeds_that_are_none(self):
        wrong = [["send", "m"], ("send",), ("send", "m", None), ("sent", "m"), ("Send", "m"), ("", "m"), ("m", "send"),
                 ("send", "M"), ("send", ""), ("send", "abcde"), ("send", None), ("receive", 1), ("receive", True),
                 ("receive", ("m",)), (["send"], "m"), (None, "m"), ("receive", "start"), "send", ("!", "m"),
                 (("send", "m"),), ("send", "m "), (("send",), "m"), ("receive", "m\n")]
        for deed in wrong:
            self.assertIs(is_step(("x", 0, deed)), False, deed)

    def test_other_shapes(self):
        for value in ODD_VALUES + [["x", 0, None], ("x", 0), ("x", 0, None, None), ("x",), ("x", None, 0),
                                   (0, "x", None), "x", (("x", 0, None),), [("x", 0, None)]]:
            self.assertIs(is_step(value), False, value)


class TextTest(unittest.TestCase):

    def test_examples(self):
        for text, step in [("x", ("x", 0, None)), ("x=-3", ("x", -3, None)), ("done=2!m", ("done", 2, ("send", "m"))),
                           ("x?m", ("x", 0, ("receive", "m")))]:
            self.assertEqual(step_text(step), text)
            self.assertEqual(step_text(step=step), text)
            self.assertEqual(read_step(text), step)
            self.assertEqual(read_step(text=text), step)

    def test_all_numbers_and_kinds_of_deeds(self):
        for mark in ["x", "abcd"]:
            for number in range(-99, 100):
                for deed in DEEDS:
                    text = step_text((mark, number, deed))
                    self.assertEqual(text, plain_text(mark, number, deed))
                    step = read_step(text)
                    self.assertEqual(step, (mark, number, deed))
                    self.assertIs(is_step(step), True)

    def check_text(self, text):
        step = read_step(text)
        if TEXT.fullmatch(text) is None:
            self.assertIsNone(step, text)
        else:
            self.assertIs(is_step(step), True, text)
            self.assertEqual(plain_text(*step), text)

    def test_a_sign_put_in_left_out_or_changed(self):
        signs = list(LETTERS[:3]) + SIGNS + list("0123456789")
        for text in ["x", "x=-3", "done=2!m", "x?m", "abcd=-99?abcd", "x=10!m", "x=99", "y!send", "x=5?x"]:
            for at in range(len(text) + 1):
                self.check_text(text[:at] + text[at + 1:])
                for sign in signs:
                    self.check_text(text[:at] + sign + text[at:])
                    self.check_text(text[:at] + sign + text[at + 1:])

    def test_texts_of_none(self):
        for text in ["", " ", "x ", " x", "x\n", "x=", "x=0", "x=-0", "x=00", "x=05", "x=-05", "x=+5", "x=100", "x=-100",
                     "x=--5", "x=5-", "x=- 5", "x=1_0", "x= 5", "x=5 ", "x=\u0665", "x=\u00b2", "x=5=6", "x==5", "=5",
                     "x!", "x?", "x!M", "x!abcde", "x!m?n", "x?m!n", "x!m!n", "x!!m", "!m", "x!m=3", "abcde", "start",
                     "X", "x m", "x=5!", "x=!m", "x=" + "9" * 3000, "x=" + "9" * 5000, "x" * 3000, "x!" + "m" * 3000,
                     "x=5 !m", "x = 5", "x\u00e9", "5", "-5", "x-5", "x5"]:
            self.assertIsNone(read_step(text), text)

    def test_values_that_are_no_strings(self):
        for value in ODD_VALUES + [("x", 0, None), ["x"], ("x",), 5, b"x"]:
            if not isinstance(value, str):
                self.assertIsNone(read_step(value), value)


if __name__ == "__main__":
    unittest.main()
