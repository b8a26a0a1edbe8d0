"""What a clause is: right ones of each kind at their bounds, and values with one wrong part."""

import unittest

from tests.helper import MARKS, ODD_VALUES, PAIRS, RIGHT_CLAUSES, WRONG_CLAUSES
from tiedmoments.conditions import is_clause

WRONG_NAMES = [None, True, 0, "", "A", "abcdefg", "a1", "a b", " a", ("a",), ["a"], [], "a,"]
WRONG_MARKS = [None, False, 1, "", "*", "abcde", "Start", "starts", "x y", "X", ("x",), ["x"], "x,", "start "]
WRONG_COUNTED = [None, False, 1, " ", "*", "start", "abcde", "X", (), ("x",), ["x"], []]
WRONG_NUMBERS = [None, True, False, -100, 100, 999999999, "0", "", (0,), [0], "x"]


def with_parts(clause, at, values):
    """The clauses with another value at one place."""
    return [(*clause[:at], value, *clause[at + 1:]) for value in values]


class ClauseTest(unittest.TestCase):

    def check_all(self, values, right):
        for value in values:
            self.assertIs(is_clause(value), right, value)
            self.assertIs(is_clause(value=value), right)

    def test_right_clauses_of_each_kind(self):
        self.check_all(RIGHT_CLAUSES, True)

    def test_values_that_are_no_clauses(self):
        self.check_all(WRONG_CLAUSES, False)
        self.check_all(ODD_VALUES, False)

    def test_lists_and_missing_and_additional_parts(self):
        for clause in RIGHT_CLAUSES:
            self.check_all([list(clause), clause[:-1], clause[1:], (*clause, None), (*clause, clause[-1]), (clause,),
                            clause[:1], ("x", *clause), (*clause[:2], *clause[1:])], False)

    def test_wrong_words(self):
        for clause in RIGHT_CLAUSES:
            self.check_all(with_parts(clause, 0, ["", "x", clause[0].upper(), None, 0, [clause[0]], (clause[0],)]), False)

    def test_wrong_names(self):
        for clause in RIGHT_CLAUSES:
            if clause[0] == "tie":
                for at in (1, 2):
                    steps = [(name, clause[at][1]) for name in WRONG_NAMES]
                    self.check_all(with_parts(clause, at, steps), False)
            else:
                self.check_all(with_parts(clause, 1, WRONG_NAMES), False)
        self.check_all(with_parts(("lead", "a", "x", "b", "y", 0), 3, WRONG_NAMES), False)
        self.check_all(with_parts(("pair", "a", "b", (("x", "y"),)), 2, WRONG_NAMES), False)

    def test_wrong_marks(self):
        for mark in WRONG_MARKS:
            self.check_all([("at", "a", (mark,)), ("at", "a", ("x", mark)), ("at", "a", (mark, "x"))], False)
            for pair in [(mark, "x"), ("x", mark)]:
                self.check_all([("pair", "a", "b", (pair,)), ("pair", "a", "b", (("y", "y"), pair)),
                                ("pair", "a", "b", (pair, ("y", "y")))], False)

    def test_wrong_marks_and_numbers_of_leads(self):
        clause = ("lead", "a", "x", "b", "y", 0)
        self.check_all(with_parts(clause, 2, WRONG_COUNTED), False)
        self.check_all(with_parts(clause, 4, WRONG_COUNTED), False)
        self.check_all(with_parts(clause, 5, WRONG_NUMBERS), False)
        self.check_all(with_parts(clause, 2, ["", "x", "abcd"]), True)
        self.check_all(with_parts(clause, 4, ["", "x", "abcd"]), True)
        self.check_all(with_parts(clause, 5, [-99, -1, 0, 1, 99]), True)

    def test_indexes_and_places(self):
        for number in range(-2, 23):
            self.check_all([("floor", "a", number), ("ceiling", "a", number)], 0 <= number <= 20)
            self.check_all([("tie", ("a", number), ("b", 0)), ("tie", ("b", 0), ("a", number))], 0 <= number <= 19)
        for number in WRONG_NUMBERS:
            self.check_all([("floor", "a", number), ("ceiling", "a", number)], False)
            self.check_all([("tie", ("a", number), ("b", 0)), ("tie", ("b", 0), ("a", number))], False)

    def test_how_many_marks_and_pairs(self):
        for many in range(24):
            self.check_all([("at", "a", tuple(MARKS[:many]))], 1 <= many <= 21)
            self.check_all([("pair", "a", "b", tuple(PAIRS[:many]))], 1 <= many <= 16)


if __name__ == "__main__":
    unittest.main()
