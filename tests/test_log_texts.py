"""Texts of logs, written and read."""

import re
import unittest

from tests.helper import ODD_VALUES, check_error, message_error, random_rows, seeded
from tiedmoments.errors import DuplicateMessage, DuplicateName, InvalidText, Ring, Unsent
from tiedmoments.logs import Log

STEP = "[a-z]{1,4}(=-?[1-9][0-9]?)?([!?][a-z]{1,4})?"
LINE = re.compile("[a-z]{1,6}:( " + STEP + "){0,20}")
LINES = ["", "a", ":", "a: ", "a:x", "a:  x", "a: x ", " a: x", "A: x", "abcdefg: x", "a : x", "a: x=0", "a: x=05", "--",
         "a: x  y", "a: X", "a: x=100", "a: x!m?n", "a:: x", "a: x y:", "a:" + " x" * 21, "a:\tx", "a: x\r", "a: start",
         "a: x=+1", "a; x", "a: x,y", "a1: x"]
MORE = ["new:", "new: x", "new:" + " x" * 20, "abcdef: x=-99!aaaa", "new: done=99"]


def text_of(rows):
    text = ""
    for name, steps in rows:
        text += name + ":"
        for mark, number, deed in steps:
            text += " " + mark
            text += "=" + str(number) if number else ""
            text += {"send": "!", "receive": "?"}[deed[0]] + deed[1] if deed else ""
        text += "\n"
    return text


def wrong_line(text):
    """The index of the first line that cannot be read, or None."""
    pieces = text.split("\n")
    for at, line in enumerate(pieces[:-1]):
        if LINE.fullmatch(line) is None or at == 6:
            return at
    return len(pieces) - 1 if pieces[-1] else None


class WriteTest(unittest.TestCase):

    def test_example(self):
        log = Log(("a", [("x", 1, None), ("y", 0, ("send", "m"))]), ("b", [("z", -2, ("receive", "m"))]), ("c", []))
        self.assertEqual(log.text(), "a: x=1 y!m\nb: z=-2?m\nc:\n")
        self.assertEqual(str(log), "a: x=1 y!m\nb: z=-2?m\nc:\n")

    def test_the_log_without_processes(self):
        self.assertEqual(Log().text(), "")
        self.assertEqual(str(Log()), "")
        self.assertEqual(Log.read(""), Log())
        self.assertEqual(Log.read(text="").processes(), [])

    def test_text_and_str_and_read(self):
        rng = seeded(31)
        for _ in range(400):
            rows = random_rows(rng, 6, rng.choice([2, 20]))
            log = Log(*rows)
            self.assertEqual(log.text(), text_of(rows))
            self.assertEqual(str(log), text_of(rows))
            again = Log.read(log.text())
            self.assertIs(again.__class__, Log)
            self.assertEqual(again.rows(), rows)
            self.assertEqual(again, log)
            self.assertEqual(list(again.walk()), list(log.walk()))

    def test_read_is_called_off_the_class_or_a_log(self):
        self.assertEqual(Log.read(text="a: x\n").rows(), [("a", [("x", 0, None)])])
        self.assertEqual(Log(("b", [])).read("a: x\n").rows(), [("a", [("x", 0, None)])])


class ReadErrorTest(unittest.TestCase):

    def check(self, text, at):
        self.assertEqual(wrong_line(text), at, text)
        check_error(self, InvalidText, {"at": at}, Log.read, text)

    def test_values_that_are_no_strings(self):
        for value in ODD_VALUES + [["a:\n"], ("a:\n",), 7]:
            if not isinstance(value, str):
                check_error(self, InvalidText, {"at": 0}, Log.read, value)
        check_error(self, InvalidText, {"at": 0}, Log.read, text=None)

    def test_a_last_line_without_its_line_feed(self):
        for count in range(8):
            whole = "".join(name + ": x\n" for name in "abcdefgh"[:count])
            self.check(whole + "z:", min(count, 6))
            self.check(whole + " ", min(count, 6))
            if count in range(1, 7):
                self.check(whole[:-1], count - 1)

    def test_a_seventh_line(self):
        six = "a: x\nb:\nc:\nd:\ne:\nf: y\n"
        self.assertEqual(len(Log.read(six).processes()), 6)
        for last in ["g:\n", "g: x\n", "G\n", "\n", "g", "g:\nh:\n", "a:\n"]:
            self.check(six + last, 6)
        self.check("a: x\nB:\nc:\nd:\ne:\nf: y\ng:\n", 1)

    def test_twenty_and_more_steps_in_a_line(self):
        self.assertEqual(Log.read("a:" + " x" * 20 + "\n").lengths(), (20,))
        for count in (21, 22, 60):
            self.check("a:" + " x" * count + "\n", 0)
            self.check("b: x\na:" + " x" * count + "\nB\n", 1)

    def test_empty_lines(self):
        self.check("\n", 0)
        self.check("a: x\n\n", 1)
        self.check("\na: x\n", 0)

    def test_lines_that_are_wrong(self):
        for line in LINES:
            self.check(line + "\n", 0)
            self.check("b: x\n" + line + "\nc: y\n", 1)
            self.check("b: x\nc:\n" + line + "\n" + line + "\n", 2)

    def test_wrong_lines_come_ahead_of_other_errors(self):
        self.check("a: x!m x!m\na:\nb: x?k\nB:\n", 3)
        self.check("a: x?m x!m\nb", 1)

    def test_then_the_errors_of_the_constructor(self):
        check_error(self, DuplicateName, {"name": "a"}, Log.read, "a: x!m x!m\nb:\na: x?k\n")
        check_error(self, DuplicateMessage, {"message": "m"}, Log.read, "a: x?k\nb: x!m\nc: x!m\n")
        check_error(self, Unsent, {"message": "k"}, Log.read, "a: x?k\nb: x?m x!m\n")
        check_error(self, Ring, {"process": "b"}, Log.read, "a: x!k\nb: x?m x!m\nc: x?k\n")

    def test_a_line_replaced_put_in_or_cut(self):
        rng = seeded(32)
        errors = set()
        for _ in range(3000):
            lines = text_of(random_rows(rng, 6, rng.choice([1, 4, 20]))).split("\n")[:-1]
            at = rng.randint(0, len(lines))
            kind = rng.randrange(4)
            renamed = ["fresh" + line[line.index(":"):] for line in lines]
            fresh = rng.choice(rng.choice([LINES, MORE, lines or MORE, renamed or MORE]))
            if kind == 0:
                lines.insert(at, fresh)
            elif kind == 1:
                lines[at:at + 1] = [fresh]
            elif kind == 2:
                del lines[at:at + 1]
            elif at < len(lines):
                spot = rng.randint(0, len(lines[at]))
                lines[at] = lines[at][:spot] + rng.choice(["", " ", "a", "=", "!", "?", "0", ":"]) + lines[at][spot + 1:]
            text = "".join(line + "\n" for line in lines)
            errors.add(self.check_any(text if rng.randrange(6) else text[:-1]))
        self.assertLessEqual({"", "InvalidText", "DuplicateName", "DuplicateMessage", "Unsent"}, errors)

    def check_any(self, text):
        at = wrong_line(text)
        if at is not None:
            check_error(self, InvalidText, {"at": at}, Log.read, text)
            return "InvalidText"
        names = [line.split(":")[0] for line in text.split("\n")[:-1]]
        for at, name in enumerate(names):
            if name in names[:at]:
                check_error(self, DuplicateName, {"name": name}, Log.read, text)
                return "DuplicateName"
        error = message_error(plain_rows(text))
        if error is not None:
            check_error(self, error[0], error[1], Log.read, text)
            return error[0].__name__
        self.assertEqual(Log.read(text).text(), text)
        self.assertEqual(Log.read(text).rows(), plain_rows(text))
        return ""


def plain_rows(text):
    """The rows of a text that has the right form."""
    rows = []
    for line in text.split("\n")[:-1]:
        steps = []
        for word in line.split(" ")[1:]:
            mark, _, number, sign, message = re.fullmatch("([a-z]+)(=(-?[0-9]+))?([!?])?([a-z]+)?", word).groups()
            deed = {"!": ("send", message), "?": ("receive", message), None: None}[sign]
            steps.append((mark, int(number or 0), deed))
        rows.append((line.split(":")[0], steps))
    return rows


if __name__ == "__main__":
    unittest.main()
