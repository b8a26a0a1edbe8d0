"""When conditions fit a log, when they hold, and when a clause is parted."""

import unittest

from tests.helper import ODD_VALUES, RIGHT_CLAUSES, WRONG_CLAUSES, check_error, clause_holds_at, condition_holds_at
from tests.helper import is_parted_on, join, meet, moments_of, names_of, points_of, random_clause, random_condition
from tests.helper import seeded, small_rows
from tiedmoments.conditions import check, holds, parting
from tiedmoments.errors import InvalidClause, InvalidMoment, UnknownProcess
from tiedmoments.logs import Log

KINDS = ["at", "lead", "pair", "tie", "floor", "ceiling"]


def two_rows():
    return [("a", [("x", 0, None), ("y", 0, ("send", "m")), ("x", 0, None)]), ("b", [("z", 0, ("receive", "m"))])]


class CheckTest(unittest.TestCase):

    def check_error(self, error, attributes, log, condition):
        """All functions that are passed a condition raise this error ahead of others."""
        check_error(self, error, attributes, check, log, condition)
        check_error(self, error, attributes, check, condition=condition, log=log)
        for moment in [(0,) * len(log.processes()), None, (99,)]:
            check_error(self, error, attributes, holds, log, condition, moment)
            check_error(self, error, attributes, holds, log=log, condition=condition, moment=moment)

    def test_right_conditions(self):
        rng = seeded(61)
        for _ in range(150):
            rows = small_rows(rng)
            condition = random_condition(rng, names_of(rows), 12)
            self.assertIsNone(check(Log(*rows), condition))
            self.assertIsNone(check(condition=condition, log=Log(*rows)))

    def test_more_clauses_than_are_passed_are_no_error(self):
        self.assertIsNone(check(Log(*two_rows()), (("floor", "a", 0),) * 30))
        self.assertIs(holds(Log(*two_rows()), (("floor", "a", 0),) * 30, (0, 0)), True)

    def test_values_that_are_no_tuple(self):
        log = Log(*two_rows())
        for value in ODD_VALUES + [[("at", "a", ("x",))], "a in x"]:
            if value.__class__ is not tuple:
                self.check_error(InvalidClause, {"at": -1}, log, value)

    def test_the_first_item_that_is_no_clause(self):
        log = Log(*two_rows())
        right = ("floor", "a", 1)
        for wrong in WRONG_CLAUSES + ODD_VALUES:
            self.check_error(InvalidClause, {"at": 0}, log, (wrong,))
            self.check_error(InvalidClause, {"at": 2}, log, (right, right, wrong, right))
            self.check_error(InvalidClause, {"at": 1}, log, (right, wrong, right, None, wrong))
            self.check_error(InvalidClause, {"at": 1}, log, (("floor", "nobody", 1), wrong))
        self.check_error(InvalidClause, {"at": 0}, log, right)

    def test_a_strange_name(self):
        log = Log(("z", []), ("abcdef", []))
        for clause in RIGHT_CLAUSES:
            names = [name for name in strange_names(clause) if name not in ("z", "abcdef")]
            if names:
                self.check_error(UnknownProcess, {"name": names[0]}, log, (("floor", "z", 0), clause))
            else:
                self.assertIsNone(check(log, (clause,)))

    def test_of_several_strange_names_the_first_one(self):
        log = Log(("a", []))
        pairs = (("x", "x"),)
        for one, other, name in [("a", "b", "b"), ("b", "a", "b"), ("b", "c", "b"), ("c", "b", "c")]:
            for clause in [("lead", one, "", other, "", 0), ("pair", one, other, pairs), ("tie", (one, 0), (other, 0))]:
                self.check_error(UnknownProcess, {"name": name}, log, (clause,))
                self.check_error(UnknownProcess, {"name": name}, log, (("floor", "a", 3), clause, ("floor", "z", 0)))
                self.check_error(UnknownProcess, {"name": "z"}, log, (("at", "z", ("x",)), clause))
        self.check_error(UnknownProcess, {"name": "x"}, log, (("ceiling", "x", 0), ("floor", "y", 0)))
        self.check_error(UnknownProcess, {"name": "x"}, Log(), (("ceiling", "x", 0),))


def strange_names(clause):
    """The names in a clause, from left to right."""
    match clause:
        case ("lead", one, _, other, _, _) | ("pair", one, other, _) | ("tie", (one, _), (other, _)):
            return [one, other]
        case (_, name, _):
            return [name]


class HoldsTest(unittest.TestCase):

    def check_clauses(self, rows, condition):
        log = Log(*rows)
        moments = moments_of(rows)
        for point in points_of(rows):
            if point in moments:
                expected = condition_holds_at(rows, condition, point)
                self.assertIs(holds(log, condition, point), expected, (rows, condition, point))
                self.assertIs(holds(moment=point, condition=condition, log=log), expected)
            else:
                check_error(self, InvalidMoment, {"value": point}, holds, log, condition, point)

    def test_clauses_of_each_kind(self):
        rng = seeded(62)
        for kind in KINDS:
            for _ in range(60):
                rows = small_rows(rng)
                if len(rows) > 1:
                    self.check_clauses(rows, (random_clause(rng, names_of(rows), [kind]),))

    def test_conditions(self):
        rng = seeded(63)
        for _ in range(150):
            rows = small_rows(rng)
            self.check_clauses(rows, random_condition(rng, names_of(rows)))

    def test_the_condition_without_clauses_holds_always(self):
        for rows in [[], two_rows()]:
            self.check_clauses(rows, ())
        self.assertIs(holds(Log(), (), ()), True)

    def test_the_mark_at_the_place_0_is_start(self):
        log = Log(*two_rows())
        moments = [(0, 0), (1, 0), (2, 0), (3, 0), (3, 1)]
        found = [holds(log, (("at", "a", ("start", "x")),), moment) for moment in moments]
        self.assertEqual(found, [True, True, False, True, True])
        found = [holds(log, (("pair", "a", "b", (("start", "start"), ("x", "z"))),), moment) for moment in moments]
        self.assertEqual(found, [True, False, False, False, True])

    def test_leads_count_all_steps_or_those_with_a_mark(self):
        log = Log(*two_rows())
        moments = [(0, 0), (1, 0), (2, 0), (3, 0), (3, 1)]
        for clause, expected in [(("lead", "a", "x", "b", "z", 1), [True, True, True, False, True]),
                                 (("lead", "a", "", "b", "", 2), [True, True, True, False, True]),
                                 (("lead", "a", "y", "b", "", 0), [True, True, False, False, True]),
                                 (("lead", "b", "", "a", "x", -1), [False, True, True, True, True]),
                                 (("lead", "b", "z", "a", "", -3), [False, False, False, True, False])]:
            self.assertEqual([holds(log, (clause,), moment) for moment in moments], expected)

    def test_ties_and_bounds_beyond_the_rows(self):
        log = Log(*two_rows())
        for clause, expected in [(("tie", ("a", 0), ("b", 1)), [True, False]), (("tie", ("a", 19), ("b", 0)), [True, True]),
                                 (("tie", ("a", 0), ("a", 3)), [True, False]), (("floor", "a", 4), [False, False]),
                                 (("tie", ("a", 0), ("a", 0)), [True, True]), (("ceiling", "a", 20), [True, True]),
                                 (("floor", "b", 0), [True, True]), (("ceiling", "a", 0), [True, False])]:
            self.assertEqual([holds(log, (clause,), moment) for moment in [(0, 0), (3, 1)]], expected)

    def test_values_that_are_no_moments(self):
        log = Log(*two_rows())
        for value in ODD_VALUES + [(0, 1), (1, 1), (4, 0), (0, 2), (-1, 0), (True, 0), (0, False), [0, 0], (0,), (0, 0, 0)]:
            for condition in [(), (("floor", "a", 0),), (("floor", "a", 9), ("at", "b", ("z",)))]:
                check_error(self, InvalidMoment, {"value": value}, holds, log, condition, value)


class PartingTest(unittest.TestCase):

    def check_clause(self, rows, clause):
        found = parting(Log(*rows), clause)
        self.assertEqual(parting(clause=clause, log=Log(*rows)), found)
        if found is None:
            self.assertFalse(is_parted_on(rows, clause), (rows, clause))
            return False
        self.assertEqual((found.__class__, len(found)), (tuple, 2))
        one, other = found
        moments = moments_of(rows)
        for moment in [one, other]:
            self.assertIs(moment.__class__, tuple)
            self.assertIn(moment, moments)
            self.assertTrue(clause_holds_at(rows, clause, moment))
        both = [clause_holds_at(rows, clause, moment) for moment in [meet(one, other), join(one, other)]]
        self.assertFalse(all(both), (rows, clause))
        return True

    def test_pair_clauses_against_all_pairs_of_moments(self):
        rng = seeded(64)
        parted = 0
        for _ in range(1500):
            rows = small_rows(rng, 3)
            if len(rows) > 1:
                parted += self.check_clause(rows, random_clause(rng, names_of(rows), ["pair"]))
        self.assertGreater(parted, 50)

    def test_other_clauses_are_never_parted(self):
        rng = seeded(65)
        for _ in range(200):
            rows = small_rows(rng, 3)
            if len(rows) > 1:
                clause = random_clause(rng, names_of(rows), ["at", "lead", "tie", "floor", "ceiling"])
                self.assertIs(self.check_clause(rows, clause), False)

    def test_only_possible_pairs_of_places_count(self):
        cross = ("pair", "a", "b", (("x", "start"), ("start", "z")))
        free = [("a", [("x", 0, None)]), ("b", [("z", 0, None)])]
        self.assertTrue(self.check_clause(free, cross))
        sent = [("a", [("x", 0, ("send", "m"))]), ("b", [("z", 0, ("receive", "m"))])]
        self.assertFalse(self.check_clause(sent, cross))
        received = [("a", [("x", 0, ("receive", "m"))]), ("b", [("z", 0, ("send", "m"))])]
        self.assertFalse(self.check_clause(received, cross))

    def test_the_meet_or_the_join_alone_may_be_missing(self):
        rows = [("a", [("x", 0, None)]), ("b", [("z", 0, None)])]
        cross = (("x", "start"), ("start", "z"))
        self.assertTrue(self.check_clause(rows, ("pair", "a", "b", (*cross, ("start", "start")))))
        self.assertTrue(self.check_clause(rows, ("pair", "a", "b", (*cross, ("x", "z")))))
        self.assertFalse(self.check_clause(rows, ("pair", "a", "b", (*cross, ("start", "start"), ("x", "z")))))
        self.assertFalse(self.check_clause(rows, ("pair", "b", "a", (("start", "start"), ("z", "x")))))

    def test_errors(self):
        log = Log(*two_rows())
        for wrong in WRONG_CLAUSES + ODD_VALUES + [(("floor", "a", 0),), list(RIGHT_CLAUSES[0])]:
            check_error(self, InvalidClause, {"at": 0}, parting, log, wrong)
            check_error(self, InvalidClause, {"at": 0}, parting, log=log, clause=wrong)
        pairs = (("x", "x"),)
        for clause, name in [(("at", "c", ("x",)), "c"), (("pair", "a", "c", pairs), "c"), (("pair", "d", "c", pairs), "d"),
                             (("lead", "d", "", "a", "", 0), "d"), (("tie", ("b", 0), ("c", 0)), "c")]:
            check_error(self, UnknownProcess, {"name": name}, parting, log, clause)

    def test_long_rows_with_one_mark(self):
        rows = [("a", [("x", 0, None)] * 20), ("b", [("x", 0, None)] * 20)]
        log = Log(*rows)
        self.assertIsNone(parting(log, ("pair", "a", "b", (("x", "x"), ("start", "start")))))
        one, other = parting(log, ("pair", "a", "b", (("start", "x"), ("x", "start"))))
        self.assertEqual(meet(one, other), (0, 0))
        self.assertTrue(0 in one and 0 in other and 0 not in join(one, other))


if __name__ == "__main__":
    unittest.main()
