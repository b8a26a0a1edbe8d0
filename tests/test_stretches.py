"""Tests of processes: their errors, their stretches in lots, and the opposite tests."""

import itertools
import unittest

from tests.helper import MARKS, ODD_VALUES, WRONG_CLAUSES, check_error, lots_of_all_kinds, marks_at, moments_of, names_of
from tests.helper import seeded, small_rows, stretches_in
from tiedmoments.courses import check_tests, every, opposite, stretches
from tiedmoments.errors import EmptyLot, InvalidTests, UnknownProcess
from tiedmoments.logs import Log
from tiedmoments.lots import empty_lot, lot_of, whole_lot

OTHER_CLAUSES = [("lead", "a", "", "b", "", 0), ("pair", "a", "b", (("x", "x"),)), ("tie", ("a", 0), ("b", 0)),
                 ("floor", "a", 0), ("ceiling", "a", 0)]
NO_TESTS = ODD_VALUES + WRONG_CLAUSES + OTHER_CLAUSES


def all_marks():
    """All tuples of marks of a small log, in any order for two of them."""
    marks = ["x", "y", "z", "start"]
    return [some for many in (1, 2, 3, 4) for some in itertools.combinations(marks, many)] + [("z", "x"), ("start", "y")]


def six_rows():
    return [(name, [("x", 0, None)]) for name in "abcdef"]


class CheckTest(unittest.TestCase):

    def check_wrong(self, error, attributes, log, tests):
        check_error(self, error, attributes, check_tests, log, tests)
        check_error(self, error, attributes, check_tests, tests=tests, log=log)
        for lot in [whole_lot(log), empty_lot(log)]:
            check_error(self, error, attributes, every, lot, tests)
            check_error(self, error, attributes, every, tests=tests, lot=lot)

    def test_right_tests(self):
        log = Log(*six_rows())
        for many in range(1, 7):
            for names in itertools.permutations("abcdef", many):
                tests = tuple(("at", name, ("x", "start")[:1 + many % 2]) for name in names)
                self.assertIsNone(check_tests(log, tests))
        self.assertIsNone(check_tests(log, (("at", "a", tuple(MARKS[:21])),)))

    def test_values_that_are_no_tuple_of_one_to_six_items(self):
        log = Log(*six_rows())
        right = [("at", name, ("x",)) for name in "abcdef"]
        for value in [value for value in ODD_VALUES if value.__class__ is not tuple or value == ()] + [
                right, right[:1], tuple(right + right[:1]), tuple(right + [None]), (None,) * 7, {}]:
            self.check_wrong(InvalidTests, {"at": -1}, log, value)

    def test_the_first_wrong_item(self):
        log = Log(*six_rows())
        right = [("at", name, ("x",)) for name in "abcdef"]
        for wrong in NO_TESTS:
            self.check_wrong(InvalidTests, {"at": 0}, log, (wrong,))
            self.check_wrong(InvalidTests, {"at": 2}, log, (right[0], ("at", "q", ("x",)), wrong, right[0]))
        for at in range(6):
            self.check_wrong(InvalidTests, {"at": at}, log, (*right[:at], None, *right[at + 1:]))

    def test_a_process_of_an_earlier_item(self):
        log = Log(*six_rows())
        for tests, at in [("aa", 1), ("aba", 2), ("abb", 2), ("abcb", 3), ("qq", 1), ("abcdea", 5), ("qabq", 3)]:
            tests = tuple(("at", name, ("x",) if own % 2 else ("y",)) for own, name in enumerate(tests))
            self.check_wrong(InvalidTests, {"at": at}, log, tests)
        self.check_wrong(InvalidTests, {"at": 1}, log, (right_test("a"), right_test("a"), None))
        self.check_wrong(InvalidTests, {"at": 1}, log, (right_test("a"), None, right_test("a")))

    def test_strange_names(self):
        log = Log(*six_rows())
        for names, strange in [("q", "q"), ("aqr", "q"), ("raq", "r"), ("abcdeq", "q")]:
            tests = tuple(right_test(name) for name in names)
            self.check_wrong(UnknownProcess, {"name": strange}, log, tests)
            self.check_wrong(InvalidTests, {"at": len(names)}, log, (*tests, tests[0])) if len(names) < 6 else None

    def test_empty_lots_come_behind(self):
        for log in [Log(*six_rows()), Log(("a", []))]:
            check_error(self, EmptyLot, {}, every, empty_lot(log), (right_test("a"),))


def right_test(name):
    return ("at", name, ("x",))


class StretchTest(unittest.TestCase):

    def test_all_marks_in_lots_of_all_kinds(self):
        rng = seeded(171)
        many = 0
        for _ in range(40):
            rows = small_rows(rng)
            for lot, held in lots_of_all_kinds(rng, rows):
                for name in names_of(rows):
                    for marks in all_marks():
                        test = ("at", name, marks)
                        found = stretches(lot, test)
                        expected = stretches_in(rows, held, test) if held else []
                        self.assertEqual(found, expected, (lot.log.text(), held, test))
                        self.assertEqual(found, sorted(found))
                        self.assertEqual(found, stretches(test=test, lot=lot))
                        many += len(found) > 1
        self.assertGreater(many, 100)

    def test_places_that_no_moment_has_part_nothing(self):
        log = Log.read("a: x y x z x\n")
        self.assertEqual(stretches(whole_lot(log), ("at", "a", ("x",))), [("a", 1, 1), ("a", 3, 3), ("a", 5, 5)])
        lot = lot_of(log, (("at", "a", ("start", "x", "z")),))
        self.assertEqual(stretches(lot, ("at", "a", ("x",))), [("a", 1, 3), ("a", 5, 5)])
        self.assertEqual(stretches(lot, ("at", "a", ("y",))), [])
        self.assertEqual(stretches(lot, ("at", "a", ("z", "start", "x"))), [("a", 0, 5)])
        self.assertEqual(stretches(empty_lot(log), ("at", "a", ("x",))), [])

    def test_errors(self):
        log = Log(*six_rows())
        for lot in [whole_lot(log), empty_lot(log)]:
            for wrong in NO_TESTS:
                check_error(self, InvalidTests, {"at": 0}, stretches, lot, wrong)
                check_error(self, InvalidTests, {"at": 0}, stretches, test=wrong, lot=lot)
            for name in ["q", "start", "ab"]:
                check_error(self, UnknownProcess, {"name": name}, stretches, lot, right_test(name))


class OppositeTest(unittest.TestCase):

    def test_all_marks(self):
        rng = seeded(172)
        for _ in range(80):
            rows = small_rows(rng)
            log = Log(*rows)
            for own, (name, steps) in enumerate(rows):
                for marks in all_marks():
                    found = opposite(("at", name, marks), log)
                    self.assertEqual(found, opposite(log=log, test=("at", name, marks)))
                    present = {"start"} | {step[0] for step in steps}
                    left = tuple(sorted(present - set(marks)))
                    self.assertEqual(found, ("at", name, left) if left else None)
                    for moment in moments_of(rows):
                        mark = marks_at(rows, moment)[name]
                        self.assertIs(found is not None and mark in found[2], mark not in marks)

    def test_rows_with_all_their_marks(self):
        marks = MARKS[1:21]
        log = Log(("a", [(mark, 0, None) for mark in marks]))
        self.assertEqual(opposite(("at", "a", ("zzzz",)), log), ("at", "a", tuple(sorted([*marks, "start"]))))
        self.assertIsNone(opposite(("at", "a", tuple(marks) + ("start",)), log))
        self.assertEqual(opposite(("at", "a", tuple(marks)), log), ("at", "a", ("start",)))
        self.assertIsNone(opposite(("at", "a", ("start",)), Log(("a", []))))

    def test_errors(self):
        log = Log(*six_rows())
        for wrong in NO_TESTS:
            check_error(self, InvalidTests, {"at": 0}, opposite, wrong, log)
            check_error(self, InvalidTests, {"at": 0}, opposite, log=log, test=wrong)
        for name in ["q", "start", "ab"]:
            check_error(self, UnknownProcess, {"name": name}, opposite, right_test(name), log)


if __name__ == "__main__":
    unittest.main()
