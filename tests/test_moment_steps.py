"""The past of a step, steps ahead of others, and the meet and the join of points."""

import unittest

from tests.helper import ODD_VALUES, check_error, is_moment_of, join, meet, moments_of, names_of, points_of
from tests.helper import random_rows, seeded, small_rows
from tiedmoments.errors import InvalidPoint, UnknownStep
from tiedmoments.logs import Log
from tiedmoments.moments import is_ahead, is_moment, join_of, meet_of, past


def many_rows(many=120):
    rng = seeded(41)
    return [small_rows(rng) for _ in range(many)] + [[], [("a", [])]]


def steps_of(rows):
    return [(name, index) for name, steps in rows for index in range(len(steps))]


def with_step(rows, step):
    """All moments that have a step."""
    at = names_of(rows).index(step[0])
    return [moment for moment in moments_of(rows) if moment[at] > step[1]]


def wrong_steps(rows):
    """Values that name no step of a log."""
    wrong = ODD_VALUES + [("nobody", 0), ("a", 0, 0), (0, "a"), ("", 0), (None, 0), (["a"], 0), ("A", 0)]
    for name, steps in rows:
        wrong.extend([(name, -1), (name, len(steps)), (name, 20), (name, True), (name, False), (name, None)])
        wrong.extend([(name, "0"), (name, (0,)), (name,), [name, 0], ((name, 0),), name, (name, 0, None), ([name], 0)])
    return [value for value in wrong if not is_step_name(rows, value)]


def is_step_name(rows, value):
    return value.__class__ is tuple and value in steps_of(rows) and value[1].__class__ is int


def chain():
    """Three processes, each of which waits for the one before."""
    return [("c", [("x", 0, ("receive", "l")), ("x", 0, None)]),
            ("b", [("x", 0, ("receive", "k")), ("x", 0, ("send", "l")), ("x", 0, None)]),
            ("a", [("x", 0, None), ("x", 0, ("send", "k")), ("x", 0, None)])]


class PastTest(unittest.TestCase):

    def test_the_past_is_the_least_moment_that_has_the_step(self):
        for rows in many_rows():
            log = Log(*rows)
            for step in steps_of(rows):
                expected = meet(*with_step(rows, step))
                self.assertEqual(past(log, step), expected, (rows, step))
                self.assertIs(past(log, step).__class__, tuple)
                self.assertEqual(past(step=step, log=log), expected)

    def test_the_past_in_a_chain(self):
        log = Log(*chain())
        self.assertEqual(past(log, ("c", 0)), (1, 2, 2))
        self.assertEqual(past(log, ("b", 0)), (0, 1, 2))
        self.assertEqual(past(log, ("b", 2)), (0, 3, 2))
        self.assertEqual(past(log, ("a", 0)), (0, 0, 1))

    def test_great_logs(self):
        rng = seeded(42)
        for _ in range(20):
            rows = random_rows(rng, 6, 20, 2)
            log = Log(*rows)
            for step in steps_of(rows)[::7]:
                found = past(log, step)
                at = names_of(rows).index(step[0])
                self.assertEqual(found[at], step[1] + 1)
                self.assertIs(is_moment(log, found), True)
                # Each step of the past but the last one of a row that is needed cannot be left out.
                for other in range(len(rows)):
                    if found[other] > 0:
                        less = (*found[:other], found[other] - 1, *found[other + 1:])
                        self.assertFalse(is_moment_of(rows, less) and less[at] > step[1])

    def test_values_that_name_no_step(self):
        for rows in many_rows(15):
            log = Log(*rows)
            for value in wrong_steps(rows):
                check_error(self, UnknownStep, {"step": value}, past, log, value)
                check_error(self, UnknownStep, {"step": value}, past, log=log, step=value)


class AheadTest(unittest.TestCase):

    def test_all_pairs_of_steps(self):
        for rows in many_rows():
            log = Log(*rows)
            for one in steps_of(rows):
                for other in steps_of(rows):
                    at = names_of(rows).index(one[0])
                    always = all(moment[at] > one[1] for moment in with_step(rows, other))
                    expected = one != other and always
                    self.assertIs(is_ahead(log, one, other), expected, (rows, one, other))
                    self.assertIs(is_ahead(other=other, one=one, log=log), expected)

    def test_no_step_is_ahead_of_itself(self):
        log = Log(*chain())
        self.assertIs(is_ahead(log, ("a", 1), ("a", 1)), False)
        self.assertIs(is_ahead(log, ("a", 0), ("a", 1)), True)
        self.assertIs(is_ahead(log, ("a", 1), ("a", 0)), False)
        self.assertIs(is_ahead(log, ("a", 1), ("c", 0)), True)
        self.assertIs(is_ahead(log, ("a", 2), ("c", 0)), False)

    def test_values_that_name_no_step(self):
        rows = chain()
        log = Log(*rows)
        for value in wrong_steps(rows):
            check_error(self, UnknownStep, {"step": value}, is_ahead, log, value, ("a", 0))
            check_error(self, UnknownStep, {"step": value}, is_ahead, log, ("a", 0), value)
            check_error(self, UnknownStep, {"step": value}, is_ahead, log=log, one=value, other=("b", 9))
            check_error(self, UnknownStep, {"step": ("b", 9)}, is_ahead, log, ("b", 9), value)


class MeetAndJoinTest(unittest.TestCase):

    def test_none_to_three_points(self):
        rng = seeded(43)
        for rows in many_rows():
            log = Log(*rows)
            first, last = (0,) * len(rows), tuple(len(steps) for name, steps in rows)
            self.assertEqual((meet_of(log), join_of(log)), (last, first))
            self.assertEqual((meet_of(log=log), join_of(log=log)), (last, first))
            for many in range(1, 4):
                points = rng.choices(points_of(rows), k=many)
                lesser = meet(*points) if rows else ()
                greater = join(*points) if rows else ()
                self.assertEqual(meet_of(log, *points), lesser)
                self.assertEqual(join_of(log, *points), greater)
                self.assertEqual((meet_of(log, *points).__class__, join_of(log, *points).__class__), (tuple, tuple))

    def test_points_need_not_be_moments(self):
        log = Log(("a", [("x", 0, ("receive", "m"))]), ("b", [("y", 0, ("send", "m"))]))
        self.assertEqual(join_of(log, (1, 0)), (1, 0))
        self.assertEqual(meet_of(log, (1, 0), (1, 1)), (1, 0))

    def test_the_first_wrong_point(self):
        rows = [("a", [("x", 0, None)] * 2), ("b", [("x", 0, None)])]
        log = Log(*rows)
        wrong = ODD_VALUES + [(0,), (0, 2), (3, 0), (-1, 0), (0, True), [0, 0], (0, 0, 0), (0, None), ((0, 0),)]
        for value in wrong:
            for call in [meet_of, join_of]:
                check_error(self, InvalidPoint, {"value": value}, call, log, value)
                check_error(self, InvalidPoint, {"value": value}, call, log, (0, 0), value)
                check_error(self, InvalidPoint, {"value": value}, call, log, (2, 1), value, (9, 9))
                check_error(self, InvalidPoint, {"value": (9, 9)}, call, log, (9, 9), (0, 0), value)

    def test_a_point_of_another_log(self):
        check_error(self, InvalidPoint, {"value": (0,)}, meet_of, Log(), (), (0,))
        check_error(self, InvalidPoint, {"value": ()}, join_of, Log(("a", [])), (0,), ())


if __name__ == "__main__":
    unittest.main()
