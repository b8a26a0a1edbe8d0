"""The function climb: climbs that hold, from all points, and its errors in their order."""

import unittest

from tests.helper import ODD_VALUES, RIGHT_CLAUSES, WRONG_CLAUSES, check_error, clause_holds_at, closed_condition
from tests.helper import is_parted_on, join, least_above, meet, moments_of, names_of, points_of, random_clause
from tests.helper import random_rows, seeded, small_rows
from tiedmoments.climbs import Climb, climb
from tiedmoments.errors import InvalidClause, InvalidPoint, Parted, UnknownProcess
from tiedmoments.logs import Log

CROSS = ("pair", "a", "b", (("x", "start"), ("start", "z")))


def two_rows():
    return [("a", [("x", 0, None), ("y", 0, ("send", "m")), ("x", 0, None)]),
            ("b", [("z", 0, None), ("z", 0, ("receive", "m"))])]


def told_of(end):
    return "climb to nothing" if end is None else "climb to " + " ".join([str(place) for place in end])


class ClimbTest(unittest.TestCase):

    def check_climb(self, found, log, condition, point, end):
        self.assertIs(found.__class__, Climb)
        self.assertEqual((found.log, found.condition, found.point), (log, condition, point))
        self.assertIs(found.holds(), True, (log.text(), condition, point))
        self.assertEqual(found.end(), end, (log.text(), condition, point))
        self.assertEqual(found.told(), told_of(end))
        self.assertIs(bool(found), True)
        self.assertEqual(repr(found), "Paper(" + told_of(end) + ")")
        self.assertIs(found.turns().__class__, list)
        again = Climb(log, condition, point, found.turns())
        self.assertEqual((again.holds(), again.end()), (True, end))

    def check_all_points(self, rows, condition):
        log = Log(*rows)
        for point in points_of(rows):
            end = least_above(rows, condition, point)
            self.check_climb(climb(log, condition, point), log, condition, point, end)
        first = (0,) * len(rows)
        end = least_above(rows, condition, first)
        for found in [climb(log, condition), climb(log, condition, None), climb(point=first, condition=condition, log=log)]:
            self.check_climb(found, log, condition, first, end)

    def test_conditions_of_all_kinds_from_all_points(self):
        rng = seeded(71)
        for _ in range(200):
            rows = small_rows(rng)
            self.check_all_points(rows, closed_condition(rng, rows))

    def test_one_clause_of_each_kind_from_all_points(self):
        rng = seeded(72)
        for kind in ["at", "lead", "pair", "tie", "floor", "ceiling"]:
            for _ in range(40):
                rows = small_rows(rng, 3, 6)
                if len(rows) > 1:
                    clause = random_clause(rng, names_of(rows), [kind])
                    if not is_parted_on(rows, clause):
                        self.check_all_points(rows, (clause,))

    def test_closed_pair_clauses_from_all_points(self):
        rng = seeded(73)
        for _ in range(80):
            rows = small_rows(rng, 3, 6)
            conditions = [closed_condition(rng, rows, 5) for _ in range(3)]
            clauses = [clause for condition in conditions for clause in condition if clause[0] == "pair"]
            self.check_all_points(rows, tuple(clauses[:3]))

    def test_without_clauses_messages_alone_force(self):
        rows = [("c", [("x", 0, ("receive", "l"))]), ("b", [("x", 0, ("receive", "k")), ("x", 0, ("send", "l"))]),
                ("a", [("x", 0, None), ("x", 0, ("send", "k")), ("x", 0, None)])]
        self.check_all_points(rows, ())
        self.assertEqual(climb(Log(*rows), (), (1, 0, 0)).end(), (1, 2, 2))
        self.assertEqual(climb(Log(*rows), (), (0, 0, 0)).turns(), [])

    def test_the_log_without_processes(self):
        log = Log()
        self.check_all_points([], ())
        for found in [climb(log, ()), climb(log, (), ())]:
            self.assertEqual((found.told(), found.end(), found.turns()), ("climb to ", (), []))
            self.assertEqual(repr(found), "Paper(climb to )")

    def test_the_example_of_a_told_climb(self):
        rows = [("a", [("x", 0, None), ("y", 0, ("send", "m"))]), ("b", []), ("c", [("z", 0, ("receive", "m"))])]
        log = Log(*rows)
        self.assertEqual(climb(log, (("at", "c", ("z",)),)).told(), "climb to 2 0 1")
        self.assertEqual(climb(log, (("at", "b", ("z",)),)).told(), "climb to nothing")

    def test_great_logs_without_clauses(self):
        rng = seeded(74)
        for _ in range(20):
            rows = random_rows(rng, 6, 20, 3)
            last = tuple(len(steps) for name, steps in rows)
            condition = tuple(("floor", name, len(steps)) for name, steps in rows)
            self.check_climb(climb(Log(*rows), condition), Log(*rows), condition, (0,) * len(rows), last)

    def test_rows_of_20_steps(self):
        log = Log(("a", [("x", 0, None)] * 20), ("b", [("x", 0, None)] * 20))
        for condition, end in [((("lead", "a", "", "b", "x", 0), ("floor", "a", 20)), (20, 20)),
                               ((("tie", ("a", 19), ("b", 19)), ("floor", "a", 20)), (20, 20)),
                               ((("lead", "a", "", "b", "", -20),), (0, 20)),
                               ((("lead", "a", "", "b", "", -21),), None),
                               ((("pair", "a", "b", (("x", "x"),)), ("lead", "b", "", "a", "", -19)), (20, 1)),
                               ((("floor", "a", 20), ("ceiling", "a", 19)), None)]:
            found = climb(log, condition)
            self.check_climb(found, log, condition, (0, 0), end)


class ErrorTest(unittest.TestCase):

    def check_error(self, error, attributes, log, condition, *points):
        check_error(self, error, attributes, climb, log, condition)
        for point in points:
            check_error(self, error, attributes, climb, log, condition, point)
            check_error(self, error, attributes, climb, point=point, log=log, condition=condition)

    def test_conditions_with_a_wrong_clause(self):
        log = Log(*two_rows())
        points = [(0, 0), None, (9, 9), "x"]
        for wrong in WRONG_CLAUSES + ODD_VALUES:
            self.check_error(InvalidClause, {"at": 0}, log, (wrong,), *points)
            self.check_error(InvalidClause, {"at": 2}, log, (CROSS, ("floor", "z", 0), wrong, None), *points)
        for value in ODD_VALUES + [list(RIGHT_CLAUSES)]:
            if value.__class__ is not tuple:
                self.check_error(InvalidClause, {"at": -1}, log, value, *points)

    def test_strange_names(self):
        log = Log(*two_rows())
        points = [(0, 0), None, (9, 9), "x"]
        self.check_error(UnknownProcess, {"name": "z"}, log, (("floor", "z", 0),), *points)
        self.check_error(UnknownProcess, {"name": "c"}, log, (CROSS, ("tie", ("c", 0), ("z", 0))), *points)

    def test_parted_clauses(self):
        rows = two_rows()
        log = Log(*rows)
        for condition, at in [((CROSS,), 0), ((("floor", "a", 9), CROSS, ("pair", "b", "a", (("z", "x"),)), CROSS), 1)]:
            for points in [(), ((0, 0),), (None,), ((9, 9),), ("x",)]:
                with self.assertRaises(Parted) as caught:
                    climb(log, condition, *points)
                found = caught.exception
                self.assertEqual((found.code, found.at), ("Parted", at))
                held = [clause_holds_at(rows, CROSS, moment) for moment in (found.one, found.other)]
                self.assertEqual(held, [True, True])
                between = [meet(found.one, found.other), join(found.one, found.other)]
                self.assertFalse(all([clause_holds_at(rows, CROSS, moment) for moment in between]))
                for moment in (found.one, found.other):
                    self.assertIn(moment, moments_of(rows))

    def test_wrong_points(self):
        log = Log(*two_rows())
        for value in ODD_VALUES + [(0,), (4, 0), (0, 3), (-1, 0), (True, 0), (0, False), [0, 0], (0, 0, 0), ("a", "b")]:
            if value is not None:
                for condition in [(), (("floor", "a", 9),), (("at", "a", ("x",)), ("ceiling", "b", 1))]:
                    check_error(self, InvalidPoint, {"value": value}, climb, log, condition, value)
                    check_error(self, InvalidPoint, {"value": value}, climb, point=value, condition=condition, log=log)

    def test_points_that_are_no_moments_are_right(self):
        self.assertEqual(climb(Log(*two_rows()), (), (0, 2)).end(), (2, 2))


if __name__ == "__main__":
    unittest.main()
