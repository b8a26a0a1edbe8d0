"""Logs: what they are made of and what they tell."""

import unittest

from tests.helper import ODD_VALUES, check_error, copy_of, random_rows, seeded
from tiedmoments.errors import InvalidNumber, UnknownProcess
from tiedmoments.logs import Log

METHODS = ["__init__", "processes", "row", "mark", "rows", "lengths", "under_way", "with_step", "with_process", "upto",
           "walk", "is_part_of", "__or__", "__and__", "__eq__", "text", "__str__", "read", "__contains__", "__len__",
           "__bool__", "__repr__"]


def sample():
    return [("a", [("x", 1, None), ("y", 0, ("send", "m")), ("x", 0, ("send", "k"))]), ("bee", []),
            ("c", [("z", -2, ("receive", "m")), ("done", 99, ("send", "late"))])]


def many_rows():
    rng = seeded(11)
    return [random_rows(rng) for _ in range(120)] + [random_rows(rng, 6, 3) for _ in range(120)] + [[], sample()]


class LogTest(unittest.TestCase):

    def check_log(self, log, rows):
        names = [name for name, steps in rows]
        self.assertEqual(log.processes(), names)
        self.assertEqual(log.rows(), rows)
        self.assertEqual(log.lengths(), tuple(len(steps) for name, steps in rows))
        for name, steps in rows:
            self.assertEqual(log.row(name), steps)
            self.assertEqual(log.row(process=name), steps)
            marks = ["start"] + [step[0] for step in steps]
            self.assertEqual([log.mark(name, place) for place in range(len(steps) + 1)], marks)
            self.assertIs(name in log, True)
        deeds = [step[2] for name, steps in rows for step in steps if step[2] is not None]
        sent = {message for kind, message in deeds if kind == "send"}
        received = {message for kind, message in deeds if kind == "receive"}
        self.assertEqual(log.under_way(), sorted(sent - received))
        count = sum(len(steps) for name, steps in rows)
        self.assertEqual(len(log), count)
        self.assertEqual(repr(log), "Log(" + str(len(rows)) + " processes, " + str(count) + " steps)")
        self.assertIs(bool(log), True)

    def check_kinds(self, log):
        self.assertIs(log.processes().__class__, list)
        self.assertIs(log.rows().__class__, list)
        self.assertIs(log.under_way().__class__, list)
        self.assertIs(log.lengths().__class__, tuple)
        for pair in log.rows():
            self.assertEqual((pair.__class__, pair[1].__class__), (tuple, list))
            self.assertIs(log.row(pair[0]).__class__, list)

    def test_from_lists_and_from_tuples(self):
        for rows in many_rows():
            self.check_log(Log(*copy_of(rows)), rows)
            self.check_log(Log(*[(name, tuple(steps)) for name, steps in rows]), rows)
            self.check_kinds(Log(*rows))
            self.check_kinds(Log(*[(name, tuple(steps)) for name, steps in rows]))

    def test_the_lists_are_changed_afterwards(self):
        for rows in many_rows():
            given = copy_of(rows)
            log = Log(*given)
            self.assertEqual(given, rows)
            for name, steps in given:
                steps.append(("w", 0, None))
                steps.insert(0, ("w", 5, None))
                steps.pop()
            self.check_log(log, rows)

    def test_returned_lists_are_new(self):
        for rows in many_rows():
            log = Log(*copy_of(rows))
            for returned in (log.processes(), log.under_way(), log.rows()):
                returned.append("more")
                returned.reverse()
            for name, steps in log.rows():
                steps.append(("w", 0, None))
                log.row(name).clear()
            self.check_log(log, rows)

    def test_the_log_without_processes(self):
        log = Log()
        self.check_log(log, [])
        self.assertEqual(log.lengths(), ())
        self.assertEqual(repr(log), "Log(0 processes, 0 steps)")
        self.assertIs(bool(log), True)

    def test_the_words_of_the_repr_stay_for_one(self):
        self.assertEqual(repr(Log(("a", [("x", 0, None)]))), "Log(1 processes, 1 steps)")

    def test_under_way_is_ascending(self):
        steps = [("x", 0, ("send", message)) for message in ["z", "ab", "b", "a", "mm"]]
        log = Log(("q", steps), ("a", [("x", 0, ("receive", "b"))]))
        self.assertEqual(log.under_way(), ["a", "ab", "mm", "z"])

    def test_a_full_log(self):
        rows = [(name, [("x", 0, None)] * 20) for name in ["a", "b", "c", "d", "e", "f"]]
        self.check_log(Log(*rows), rows)
        self.assertEqual(len(Log(*rows)), 120)

    def test_class_values(self):
        self.assertEqual((Log.PROCESSES, Log.STEPS), (6, 20))
        self.assertEqual((Log().PROCESSES, Log(*sample()).STEPS), (6, 20))

    def test_the_methods_stand_in_the_class_itself(self):
        for name in METHODS:
            self.assertIn(name, vars(Log))
        self.assertIsInstance(vars(Log)["read"], classmethod)
        self.assertEqual(Log.__module__, "tiedmoments.logs")

    def test_a_log_may_receive_what_it_sends_itself(self):
        rows = [("a", [("x", 0, ("send", "m")), ("x", 0, ("receive", "m"))])]
        self.check_log(Log(*rows), rows)

    def test_a_message_and_a_mark_and_a_process_may_share_a_word(self):
        rows = [("m", [("m", 0, ("send", "m"))]), ("send", [("send", 0, ("receive", "m"))])]
        self.check_log(Log(*rows), rows)


class ContainsTest(unittest.TestCase):

    def test_any_value(self):
        log = Log(*sample())
        for value in ODD_VALUES + ["d", "A", "be", "beee", ["a"], ("a",), ("a", "bee"), "m", "start"]:
            self.assertIs(value in log, False, value)
            self.assertIs(value in Log(), False, value)
        self.assertIs("bee" in log, True)
        self.assertIs("bee" not in log, False)


class EqualTest(unittest.TestCase):

    def test_equal_rows(self):
        for rows in many_rows():
            self.assertIs(Log(*rows) == Log(*[(name, tuple(steps)) for name, steps in rows]), True)
            self.assertIs(Log(*rows) != Log(*copy_of(rows)), False)

    def test_unequal_rows(self):
        rows = sample()
        changed = [
            rows[:2], [rows[1], rows[0], rows[2]], [("b", rows[0][1])] + rows[1:], [("a", rows[0][1][:2])] + rows[1:],
            [("a", [("x", 2, None)] + rows[0][1][1:])] + rows[1:], [("a", [("w", 1, None)] + rows[0][1][1:])] + rows[1:],
            [("a", rows[0][1] + [("x", 0, None)])] + rows[1:], [],
            [("a", rows[0][1][:2] + [("x", 0, ("send", "n"))])] + rows[1:], rows + [("d", [])],
            [("a", rows[0][1][:2] + [("x", 0, None)])] + rows[1:],
        ]
        for other in changed:
            self.assertIs(Log(*rows) == Log(*other), False, other)
            self.assertIs(Log(*other) != Log(*rows), True, other)

    def test_the_order_of_the_processes_counts(self):
        self.assertIs(Log(("a", []), ("b", [])) == Log(("b", []), ("a", [])), False)

    def test_a_log_equals_nothing_else(self):
        log = Log(*sample())
        for value in ODD_VALUES + [log.rows(), tuple(log.rows()), log.text(), repr(log), len(log)]:
            self.assertIs(log == value, False)
            self.assertIs(value == log, False)
            self.assertIs(log != value, True)
            self.assertIs(Log() == value, False)


class AskTest(unittest.TestCase):

    def test_row_of_no_process(self):
        log = Log(*sample())
        for value in ODD_VALUES + ["d", "be", "m", ["a"], ("a",)]:
            check_error(self, UnknownProcess, {"name": value}, log.row, value)
            check_error(self, UnknownProcess, {"name": value}, Log().row, value)
        check_error(self, UnknownProcess, {"name": "d"}, log.row, process="d")

    def test_mark_by_name(self):
        log = Log(*sample())
        self.assertEqual(log.mark(process="a", place=2), "y")
        self.assertEqual(log.mark(place=0, process="bee"), "start")
        self.assertEqual(log.mark("c", place=2), "done")

    def test_mark_of_no_process(self):
        log = Log(*sample())
        for value in ODD_VALUES + ["d"]:
            check_error(self, UnknownProcess, {"name": value}, log.mark, value, 0)
            check_error(self, UnknownProcess, {"name": value}, log.mark, value, "no place")

    def test_mark_at_no_place(self):
        log = Log(*sample())
        for name, length in [("a", 3), ("bee", 0), ("c", 2)]:
            wrong = [value for value in ODD_VALUES if value.__class__ is not int]
            for place in wrong + [-1, -2, length + 1, length + 2, 20, 999999999, "1", (1,), True, False]:
                check_error(self, InvalidNumber, {"value": place}, log.mark, name, place)
            self.assertEqual(log.mark(name, 0), "start")
        check_error(self, InvalidNumber, {"value": 4}, log.mark, process="a", place=4)


if __name__ == "__main__":
    unittest.main()
