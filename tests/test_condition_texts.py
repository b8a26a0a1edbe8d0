"""The texts of conditions, written and read."""

import itertools
import unittest

from tests.helper import MARKS as SOME_MARKS
from tests.helper import ODD_VALUES, check_error, seeded
from tiedmoments.conditions import condition_text, is_clause, read_condition
from tiedmoments.errors import InvalidText

NAMES = ["a", "b", "in", "from", "upto", "abcdef", "z", "start"]
MARKS = ["in", "from", "upto", "abcd"] + [mark for mark in SOME_MARKS if mark != "in"]

TEXTS = [
    ((), ""),
    ((("at", "a", ("x", "start")),), "a in x start"),
    ((("lead", "a", "x", "b", "", 3),), "a.x <= b.* + 3"),
    ((("lead", "a", "", "b", "y", -3),), "a.* <= b.y - 3"),
    ((("lead", "a", "x", "b", "y", 0),), "a.x <= b.y + 0"),
    ((("lead", "a", "", "b", "", -99),), "a.* <= b.* - 99"),
    ((("pair", "a", "b", (("x", "y"), ("start", "z"))),), "a,b in x,y start,z"),
    ((("tie", ("a", 3), ("b", 0)),), "a@3 -> b@0"),
    ((("floor", "a", 2),), "a from 2"),
    ((("ceiling", "a", 5),), "a upto 5"),
    ((("at", "in", ("in",)), ("at", "from", ("from",))), "in in in & from in from"),
    ((("floor", "upto", 10), ("ceiling", "from", 20)), "upto from 10 & from upto 20"),
]

# Texts of one word after the other that are no text of a clause.
WRONG = [
    "a", "a in", "in x", "a x", "x", "a of x", "a in X", "a in abcde", "a in starts", "a in x x", "a in *", "A in x",
    "abcdefg in x", "a in 1", "a in x,y", "a, in x", "a1 in x", "a in x,", "a IN x", "a in x;y",
    "a,b in", "a,b in x", "a,b in x,y x,y", "a,b in x,y z", "a,b in x,y,z", "a,a in x,y", "a,b,c in x,y", ",b in x,y",
    "a, in x,y", ", in x,y", "a,b in ,", "a,b in x,", "a,b in ,y", "a,b in *,y", "a b in x,y",
    "a.x <= b.y", "a.x <= b.y +", "a.x <= b.y 3", "a.x <= b.y + x", "a.x <= b.y + 03", "a.x <= b.y + -3", "a.x <= b.y - 0",
    "a.x <= b.y - 00", "a.x <= b.y + 00", "a.x <= b.y - -3", "a.x <= b.y + +3", "a.x <= b.y +3", "a.x <= b.y -3",
    "a.x <= b.y + 100", "a.x <= b.y - 100", "a.x <= b.y - 03", "a.x < b.y + 3", "a.x >= b.y + 3", "a.x <= a.y + 3",
    "a <= b + 3", "a. <= b.y + 3", "a.x <= b. + 3", ".x <= b.y + 3", "a.start <= b.y + 3", "a.x <= b.start + 3",
    "a.x <= b.y + 3 4", "a.x.y <= b.y + 3", "a.** <= b.y + 3", "a.x <= b.y * 3", "a.x <= b.y + 3.", "a.x <= b.y + ",
    "a.x <= b.y + 1000000000000000000000000", "a.X <= b.y + 3", "a.x <= b.y x 3", "a.x <= b.y ++ 3", "a,x <= b,y + 3",
    "a@3 -> b", "a -> b", "a@3 -> b@", "a@ -> b@0", "@3 -> b@0", "a@3 -> @0", "a@03 -> b@0", "a@3 -> b@00", "a@20 -> b@0",
    "a@3 -> b@20", "a@-1 -> b@0", "a@3 -> b@-0", "a@+3 -> b@0", "a@3 - > b@0", "a@3 <- b@0", "a@3 -> b@0 c@0", "a@3 b@0",
    "a@3@3 -> b@0", "a@3 -> b@0@0", "a@x -> b@0", "A@3 -> b@0", "a.3 -> b.0", "a@3 ->", "-> b@0", "a@3 -> b@100",
    "a from", "a from x", "a from 02", "a from +2", "a from -1", "a from 21", "a from 2 3", "a from 100", "a from 2.",
    "A from 2", "from 2", "a,b from 2", "a from 00", "a from -0", "a from 1000000000000000000000000", "a from two",
    "a upto", "a upto x", "a upto 05", "a upto +5", "a upto -1", "a upto 21", "a upto 5 6", "a up to 5", "a upto -0",
    "a@0 upto 5", "a.x upto 5", "5 upto a", "a to 5", "a at 5", "&&", "a&b", "a in&x", "a in x&", "start", "*",
]


def random_right_clause(rng):
    """A right clause of any kind, over all bounds."""
    one, other = rng.sample(NAMES, 2)
    kind = rng.choice(["at", "lead", "pair", "tie", "floor", "ceiling"])
    if kind == "at":
        return ("at", one, tuple(rng.sample(MARKS, rng.choice([1, 2, 3, 20, 21]))))
    if kind == "lead":
        first, second = [rng.choice(["", "", "in", "upto", "abcd", "x"]) for _ in range(2)]
        return ("lead", one, first, other, second, rng.choice([-99, -10, -9, -1, 0, 1, 9, 10, 99]))
    if kind == "pair":
        pairs = list(itertools.product(MARKS[:8], repeat=2))
        return ("pair", one, other, tuple(rng.sample(pairs, rng.choice([1, 2, 3, 15, 16]))))
    if kind == "tie":
        return ("tie", (one, rng.choice([0, 1, 9, 10, 19])), (rng.choice([one, other]), rng.choice([0, 1, 9, 10, 19])))
    return (kind, one, rng.choice([0, 1, 9, 10, 19, 20]))


def written(clause):
    """The text of a clause, from its definition."""
    match clause:
        case ("at", process, marks):
            return process + " in " + " ".join(marks)
        case ("lead", process, first, other, second, most):
            sign = "- " + str(-most) if most < 0 else "+ " + str(most)
            return process + "." + (first or "*") + " <= " + other + "." + (second or "*") + " " + sign
        case ("pair", process, other, pairs):
            return process + "," + other + " in " + " ".join(",".join(pair) for pair in pairs)
        case ("tie", (process, index), (other, second)):
            return process + "@" + str(index) + " -> " + other + "@" + str(second)
        case ("floor", process, place):
            return process + " from " + str(place)
        case ("ceiling", process, place):
            return process + " upto " + str(place)


def random_conditions(many=400):
    rng = seeded(51)
    return [tuple(random_right_clause(rng) for _ in range(rng.randint(0, 5))) for _ in range(many)]


class TextTest(unittest.TestCase):

    def check_condition(self, condition, text):
        self.assertEqual(condition_text(condition), text)
        self.assertEqual(condition_text(condition=condition), text)
        for found in [read_condition(text), read_condition(text=text)]:
            self.assertEqual(found, condition)
            self.assertEqual(repr(found), repr(condition))

    def test_the_texts_of_the_document(self):
        for condition, text in TEXTS:
            self.check_condition(condition, text)

    def test_right_conditions_of_all_kinds(self):
        for condition in random_conditions():
            self.assertTrue(all(is_clause(clause) for clause in condition))
            self.check_condition(condition, " & ".join(written(clause) for clause in condition))

    def test_any_number_of_clauses_is_read(self):
        for many in (12, 13, 100):
            condition = tuple([("floor", "a", 2), ("tie", ("a", 0), ("b", 1))] * many)
            self.check_condition(condition, " & ".join(["a from 2 & a@0 -> b@1"] * many))

    def test_a_clause_may_stand_twice(self):
        self.check_condition((("floor", "a", 2), ("floor", "a", 2)), "a from 2 & a from 2")


class WrongTextTest(unittest.TestCase):

    def check_wrong(self, value, at):
        check_error(self, InvalidText, {"at": at}, read_condition, value)
        check_error(self, InvalidText, {"at": at}, read_condition, text=value)

    def test_one_wrong_clause_at_any_place(self):
        rng = seeded(52)
        conditions = [condition for condition in random_conditions(40) if len(condition) < 5]
        for wrong in WRONG:
            self.check_wrong(wrong, 0)
            texts = [written(clause) for clause in rng.choice(conditions)]
            for at in range(len(texts) + 1):
                self.check_wrong(" & ".join(texts[:at] + [wrong] + texts[at:]), at)

    def test_of_several_wrong_clauses_the_first_one_counts(self):
        self.check_wrong("a in x & a from 02 & a in y & a from 03", 1)
        self.check_wrong("a from 02 & a from 21", 0)

    def test_spaces(self):
        for text in [text for condition, text in TEXTS if text] + ["a in x & b in y"]:
            self.check_wrong(" " + text, 0)
            self.check_wrong(text + " ", text.count("&"))
            self.check_wrong(text + "\n", text.count("&"))
            self.check_wrong("\n" + text, 0)
            for at, sign in enumerate(text):
                if sign == " ":
                    ahead = text[:at].split(" ").count("&")
                    self.check_wrong(text[:at] + " " + text[at:], ahead)
                    # Behind a word & the line feed takes away this word, and so the beginning of a part.
                    self.check_wrong(text[:at] + "\n" + text[at + 1:], ahead - (text[at - 1] == "&"))

    def test_parts_without_words(self):
        self.check_wrong("&", 0)
        self.check_wrong("& &", 0)
        self.check_wrong("& a in x", 0)
        self.check_wrong("a in x &", 1)
        self.check_wrong("a in x & ", 1)
        self.check_wrong(" & a in x", 0)
        self.check_wrong("a in x & & b in y", 1)
        self.check_wrong("a in x & b in y &", 2)
        self.check_wrong("a in x &  & b in y", 1)
        self.check_wrong("a in x && b in y", 0)
        self.check_wrong("a in x &b in y", 0)
        self.check_wrong("a in x& b in y", 0)
        self.check_wrong("a in x , b in y", 0)
        self.check_wrong(" ", 0)
        self.check_wrong("  ", 0)
        self.check_wrong("\n", 0)

    def test_too_many_marks_and_pairs(self):
        marks = MARKS[:22]
        self.check_wrong("a in " + " ".join(marks), 0)
        pairs = [mark + ",x" for mark in MARKS[:17]]
        self.check_wrong("b in x & a,b in " + " ".join(pairs), 1)

    def test_values_that_are_no_text(self):
        for value in ODD_VALUES:
            if value != "":
                self.check_wrong(value, 0)
        for value in [("a in x",), ["a in x"], (("at", "a", ("x",)),)]:
            self.check_wrong(value, 0)


if __name__ == "__main__":
    unittest.main()
