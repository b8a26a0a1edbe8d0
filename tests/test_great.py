"""Great logs with conditions of up to four clauses: what papers and climbs show of them."""

import itertools
import unittest

from tests.helper import clause_holds_at, condition_holds_at, is_below, is_moment_of, names_of, random_clause, random_rows
from tests.helper import seeded, steps_of
from tests.test_totals import total_of, weights_of
from tests.test_uneven import with_numbers
from tiedmoments.climbs import climb
from tiedmoments.conditions import parting
from tiedmoments.courses import every
from tiedmoments.errors import Uneven
from tiedmoments.logs import Log
from tiedmoments.lots import lot_of, whole_lot
from tiedmoments.steering import steer
from tiedmoments.sums import best, total, with_total

MARKS = ["x", "y", "zz", "done"]


def great_clause(rng, names):
    """A clause that holds at many moments of a great log."""
    clause = random_clause(rng, names)
    if clause[0] == "at":
        return ("at", clause[1], tuple(rng.sample(MARKS, 3)) + ("start",))
    if clause[0] == "pair":
        some = rng.sample(MARKS + ["start"], 4)
        return ("pair", clause[1], clause[2], tuple(itertools.product(some, some)))
    if clause[0] == "lead":
        return ("lead", clause[1], clause[2], clause[3], clause[4], rng.randint(-3, 8))
    if clause[0] == "tie":
        return ("tie", (clause[1][0], rng.randint(0, 19)), (clause[2][0], rng.randint(0, 19)))
    return (clause[0], clause[1], rng.randint(0, 6) if clause[0] == "floor" else rng.randint(14, 20))


def great_condition(rng, log, most=4):
    condition = [great_clause(rng, log.processes()) for _ in range(rng.randint(0, most))]
    return tuple(clause for clause in condition if parting(log, clause) is None)


def great_logs(rng, many):
    """Rows of three to six processes and a condition that fits them."""
    for _ in range(many):
        rows = random_rows(rng, 6, 20, 3)
        yield rows, great_condition(rng, Log(*rows))


class GreatTest(unittest.TestCase):

    def test_least_moments_needs_and_ties(self):
        rng = seeded(191)
        filled = 0
        for rows, condition in great_logs(rng, 40):
            log = Log(*rows)
            lot = lot_of(log, condition)
            self.assertEqual(lot.least, climb(log, condition).end())
            if lot:
                filled += 1
                self.check_needs(rng, rows, condition, lot)
                again = lot_of(log, lot.ties())
                self.assertEqual((again, again.ties(), again.blocks()), (lot, lot.ties(), lot.blocks()))
        self.assertGreater(filled, 20)

    def check_needs(self, rng, rows, condition, lot):
        for name, index in rng.sample(steps_of(rows), min(25, len(steps_of(rows)))):
            point = tuple(index + 1 if other == name else 0 for other in names_of(rows))
            need = lot.need((name, index))
            self.assertEqual(need, climb(lot.log, condition, point).end())
            self.assertEqual(need, lot.above(point))
            if need is not None:
                self.assertTrue(is_moment_of(rows, need) and condition_holds_at(rows, condition, need))
                self.assertTrue(is_below(lot.least, need) and is_below(need, lot.greatest))

    def test_courses_are_made_of_moments_at_which_the_condition_holds(self):
        rng = seeded(192)
        for rows, condition in great_logs(rng, 15):
            lot = lot_of(Log(*rows), condition)
            course = list(lot.walk()) if lot else []
            self.assertEqual(len(course), len(lot.blocks()) + 1 if lot else 0)
            for moment in course:
                self.assertTrue(is_moment_of(rows, moment) and condition_holds_at(rows, condition, moment))
                self.assertIn(moment, lot)

    def test_meets_and_joins(self):
        rng = seeded(193)
        for rows, condition in great_logs(rng, 15):
            log = Log(*rows)
            one, other = lot_of(log, condition), lot_of(log, great_condition(rng, log, 2))
            self.assertEqual(one & whole_lot(log), one)
            self.assertEqual(one | whole_lot(log), whole_lot(log))
            self.assertTrue((one & other).is_within(one) and one.is_within(one | other))
            strange = one.beyond(other)
            self.assertIs(strange is None, one.is_within(other))
            self.assertIs(strange is None or (strange in one and strange not in other), True)

    def test_best_moments_of_both_sides(self):
        rng = seeded(194)
        for rows, condition in great_logs(rng, 15):
            lot = lot_of(Log(*rows), condition)
            for weights in [None, weights_of(rng)] if lot else []:
                self.check_sides(rng, rows, lot, weights)

    def check_sides(self, rng, rows, lot, weights):
        ends = {}
        for lowest in (False, True):
            one = best(lot, weights=weights, lowest=lowest)
            other = best(lot, weights=weights, lowest=lowest, last=True)
            self.assertTrue(one.holds() and other.holds())
            self.assertTrue(is_below(one.moment, other.moment))
            self.assertEqual(one.reached(), other.reached())
            self.assertEqual(one.reached(), total_of(rows, one.moment, weights))
            ends[lowest] = one.reached()
        for moment in lot.walk():
            self.assertTrue(ends[True] <= total(lot.log, moment, weights=weights) <= ends[False])

    def test_moments_with_a_total(self):
        rng = seeded(195)
        even = 0
        for rows, condition in great_logs(rng, 25):
            rows = with_numbers(rng, rows, [-1, 0, 1])
            for lot in [lot_of(Log(*rows), condition), whole_lot(Log(*rows))]:
                least, most = (best(lot, lowest=lowest).reached() for lowest in (True, False)) if lot else (0, -1)
                try:
                    found = [with_total(lot, number) for number in range(least, most + 1)]
                except Uneven as error:
                    self.assertIn(error.block, lot.blocks())
                    continue
                self.assertEqual([total_of(rows, moment, None) for moment in found], list(range(least, most + 1)))
                self.assertTrue(all(moment in lot for moment in found))
                even += 1
                if lot:
                    self.assertEqual((with_total(lot, least - 1), with_total(lot, most + 1)), (None, None))
        self.assertGreater(even, 25)

    def test_whether_every_course_passes_such_a_moment(self):
        rng = seeded(196)
        words = {"sure": 0, "avoid": 0}
        for rows, condition in great_logs(rng, 30):
            for lot in [lot_of(Log(*rows), condition), whole_lot(Log(*rows))]:
                names = rng.sample(names_of(rows), rng.randint(1, len(rows)))
                tests = tuple(("at", name, tuple(rng.sample(MARKS + ["start"], 4))) for name in names)
                found = every(lot, tests) if lot else None
                if found is not None:
                    self.assertIs(found.holds(), True)
                    self.check_walk(rows, lot, tests, found)
                    words[found.WORD] += 1
        self.assertTrue(min(words.values()) > 3, words)

    def check_walk(self, rows, lot, tests, found):
        """One course of the lot, so that a Sure paper may be refuted by it."""
        course = list(lot.walk()) if found else found.course()
        passed = any(all(clause_holds_at(rows, test, moment) for test in tests) for moment in course)
        self.assertIs(passed, bool(found))

    def test_steering(self):
        rng = seeded(197)
        words = {"steered": 0, "stuck": 0, "tied": 0}
        for rows, condition in great_logs(rng, 40):
            for lot in [lot_of(Log(*rows), condition), whole_lot(Log(*rows))]:
                names = rng.sample(names_of(rows), rng.randint(1, len(rows)))
                tests = tuple(("at", name, tuple(rng.sample(MARKS + ["start"], rng.randint(1, 3)))) for name in names)
                found = steer(lot, tests) if lot else None
                if found is not None:
                    self.assertIs(found.holds(), True)
                    words[found.WORD] += 1
                    words["tied"] += self.check_tied(rows, lot, tests, found)
        self.assertTrue(min(words.values()) > 5, words)

    def check_tied(self, rows, lot, tests, found):
        """Courses of the steered lot, or of one that cannot be steered; returns whether there are ties."""
        course = list(found.steered_lot().walk()) if found else list(lot.walk())
        held = [any(clause_holds_at(rows, test, moment) for test in tests) for moment in course]
        self.assertIs(all(held), bool(found))
        if found:
            self.assertEqual(sorted(found.steered_lot().blocks()), sorted(lot.blocks()))
        return bool(found) and found.ties() != ()

    def test_tests_of_six_processes(self):
        rows = [(name, [(mark, 0, None) for mark in ["x", "y"] * 10]) for name in "abcdef"]
        lot = whole_lot(Log(*rows))
        tests = tuple(("at", name, ("y", "start")) for name in "abcdef")
        for found in [steer(lot, tests), every(lot, tests)]:
            self.assertIs(found.holds(), True)
        self.assertEqual([steer(lot, tests).WORD, every(lot, tests).WORD], ["steered", "sure"])

    def test_full_rows_with_long_messages_to_and_fro(self):
        rows = [("a", []), ("b", [])]
        for at in range(10):
            word = "abcdefghij"[at]
            rows[0][1].extend([("x", 1, ("send", "s" + word)), ("y", -1, ("receive", "r" + word))])
            rows[1][1].extend([("x", 1, ("receive", "s" + word)), ("y", -1, ("send", "r" + word))])
        log = Log(*rows)
        lot = whole_lot(log)
        self.assertEqual((lot.many(), len(lot.blocks())), (41, 40))
        found = every(lot, (("at", "a", ("x",)), ("at", "b", ("x",))))
        self.assertEqual((found.WORD, found.stretches()), ("sure", [("a", 1, 1), ("b", 1, 1)]))
        self.assertEqual([best(lot).reached(), best(lot, lowest=True).reached()], [2, 0])


if __name__ == "__main__":
    unittest.main()
