"""Steering: ties after which one of the tests holds at each moment, or stretches that show that there are none."""

import unittest

from tests.helper import MARKS, ODD_VALUES, blocks_in, check_error, clause_holds_at, courses_in, free_in
from tests.helper import held_moments, lots_of_all_kinds, marks_at, random_tests, seeded, small_rows, steps_of
from tests.helper import stretches_in
from tests.test_every import lots_with_merged_steps, sure_holds
from tests.test_stretches import NO_TESTS, right_test, six_rows
from tiedmoments.climbs import Paper
from tiedmoments.conditions import is_clause
from tiedmoments.courses import every
from tiedmoments.errors import EmptyLot, InvalidTests, UnknownProcess
from tiedmoments.logs import Log
from tiedmoments.lots import empty_lot, lot_of, whole_lot
from tiedmoments.steering import Steered, Stuck, steer


def other_marks(rows, test):
    """The marks at which a test does not hold at a place of its process."""
    return tuple(sorted({"start", *[step[0] for step in dict(rows)[test[1]]]} - set(test[2])))


def opposites_in(rows, tests):
    return tuple(("at", test[1], other_marks(rows, test)) for test in tests)


def one_holds(rows, tests, moment):
    return any(marks_at(rows, moment)[process] in marks for kind, process, marks in tests)


def steered_holds(rows, held, tests, ties):
    """Whether right tests and any value for the ties make a Steered that holds, sentence by sentence."""
    if ties.__class__ not in (tuple, list) or not held:
        return False
    free = free_in(rows, held)
    for tie in ties:
        if not is_clause(tie) or tie[0] != "tie" or tie[1] not in free or tie[2] not in free:
            return False
    left = [moment for moment in held if all(clause_holds_at(rows, tie, moment) for tie in ties)]
    same = left != [] and set(blocks_in(rows, left)) == set(blocks_in(rows, held))
    return same and all(one_holds(rows, tests, moment) for moment in left)


def stuck_holds(rows, held, tests, stretches):
    others = opposites_in(rows, tests)
    return all(marks != () for kind, process, marks in others) and sure_holds(rows, held, others, stretches)


class SteerTest(unittest.TestCase):

    def check_steer(self, rows, lot, held, tests):
        """Checks the paper and returns its word."""
        shown = (lot.log.text(), held, tests)
        found = steer(lot, tests)
        free_courses = [course for course in courses_in(rows, held)
                        if all(one_holds(rows, tests, moment) for moment in course)]
        self.assertIs(found.__class__, Steered if free_courses else Stuck, shown)
        self.assertIs(found.holds(), True, shown)
        self.assertIs(bool(found), free_courses != [])
        self.assertEqual((found.told(), repr(found)), (found.WORD, f"Paper({found.WORD})"))
        self.assertEqual((found.lot, found.tests), (lot, tests))
        if found:
            self.check_steered(rows, held, tests, found)
        else:
            self.assertTrue(stuck_holds(rows, held, tests, found.stretches()), shown)
            self.assertIs(found.stretches().__class__, list)
        again = steer(tests=tests, lot=lot)
        self.assertEqual(again.ties() if found else again.stretches(), found.ties() if found else found.stretches())
        return found.WORD

    def check_steered(self, rows, held, tests, found):
        self.assertIs(found.ties().__class__, tuple)
        self.assertTrue(steered_holds(rows, held, tests, found.ties()))
        left = [moment for moment in held if all(clause_holds_at(rows, tie, moment) for tie in found.ties())]
        tied = found.steered_lot()
        self.assertEqual((list(tied.moments()), set(tied.blocks())), (left, set(found.lot.blocks())))
        self.assertTrue(tied.is_within(found.lot))
        courses = courses_in(rows, left)
        self.assertTrue(courses)
        for course in courses:
            self.assertTrue(all(one_holds(rows, tests, moment) for moment in course))
        if any(marks == () for kind, process, marks in opposites_in(rows, tests)):
            self.assertEqual(found.ties(), ())

    def test_lots_with_merged_steps(self):
        rng = seeded(201)
        found = {"steered": 0, "stuck": 0}
        tied = 0
        for at in range(160):
            rows = small_rows(rng, 2 + at % 3, 7 if at % 3 < 2 else 6)
            for lot, held in lots_with_merged_steps(rng, rows) if rows else []:
                tests = random_tests(rng, rows)
                found[self.check_steer(rows, lot, held, tests)] += 1
                tied += bool(steer(lot, tests)) and steer(lot, tests).ties() != ()
        self.assertTrue(min(found.values()) > 50 and tied > 20, (found, tied))

    def test_two_processes_that_enter_and_leave_a_section(self):
        rows = [("a", [("in", 0, None), ("out", 0, None)]), ("b", [("in", 0, None), ("out", 0, None)])]
        tests = (("at", "a", ("start", "out")), ("at", "b", ("start", "out")))
        lot, held = whole_lot(Log(*rows)), held_moments(rows, ())
        self.assertEqual(self.check_steer(rows, lot, held, tests), "steered")
        self.assertIn(steer(lot, tests).ties(), [(("tie", ("a", 0), ("b", 1)),), (("tie", ("b", 0), ("a", 1)),)])
        rows = [("a", [("in", 0, ("send", "k")), ("out", 0, ("receive", "l"))]),
                ("b", [("in", 0, ("send", "l")), ("out", 0, ("receive", "k"))])]
        lot, held = whole_lot(Log(*rows)), held_moments(rows, ())
        self.assertEqual(self.check_steer(rows, lot, held, tests), "stuck")
        self.assertEqual(steer(lot, tests).stretches(), [("a", 1, 1), ("b", 1, 1)])

    def test_a_test_that_holds_at_all_places(self):
        rng = seeded(202)
        for _ in range(60):
            rows = small_rows(rng)
            for lot, held in lots_with_merged_steps(rng, rows) if rows else []:
                tests = random_tests(rng, rows)
                at = rng.randrange(len(tests))
                sure = ("at", tests[at][1], ("z", "y", "start", "x"))
                tests = (*tests[:at], sure, *tests[at + 1:])
                found = steer(lot, tests)
                self.assertEqual((found.__class__, found.ties(), found.holds()), (Steered, (), True))
                self.assertEqual(found.steered_lot(), lot)

    def test_one_of_both_can_be_had(self):
        rng = seeded(203)
        for _ in range(100):
            rows = small_rows(rng)
            for lot, held in lots_with_merged_steps(rng, rows) if rows else []:
                tests = random_tests(rng, rows)
                others = opposites_in(rows, tests)
                if all(marks for kind, process, marks in others):
                    self.assertIs(bool(steer(lot, tests)), not every(lot, others))

    def test_the_steered_lot_may_be_steered_again(self):
        rng = seeded(204)
        for _ in range(60):
            rows = small_rows(rng)
            for lot, held in lots_with_merged_steps(rng, rows) if rows else []:
                found = steer(lot, random_tests(rng, rows))
                if found:
                    again = steer(found.steered_lot(), found.tests)
                    self.assertEqual((again.WORD, again.holds()), ("steered", True))


class ErrorTest(unittest.TestCase):

    def check_wrong(self, error, attributes, tests):
        log = Log(*six_rows())
        for lot in [whole_lot(log), empty_lot(log)]:
            check_error(self, error, attributes, steer, lot, tests)
            check_error(self, error, attributes, steer, tests=tests, lot=lot)

    def test_wrong_tests(self):
        right = [right_test(name) for name in "abcdef"]
        for value in [value for value in ODD_VALUES if value.__class__ is not tuple or value == ()] + [
                right, right[:1], tuple(right + right[:1]), (None,) * 7]:
            self.check_wrong(InvalidTests, {"at": -1}, value)
        for wrong in NO_TESTS:
            self.check_wrong(InvalidTests, {"at": 1}, (right_test("q"), wrong, right[0]))
        for at in range(6):
            self.check_wrong(InvalidTests, {"at": at}, (*right[:at], ("at", "a", ["x"]), *right[at + 1:]))
        self.check_wrong(InvalidTests, {"at": 2}, (right[0], right_test("q"), right[0]))
        self.check_wrong(UnknownProcess, {"name": "q"}, (right[0], right_test("q"), right_test("r")))
        self.check_wrong(UnknownProcess, {"name": "q"}, (("at", "q", tuple(MARKS[:21])),))

    def test_empty_lots(self):
        for log in [Log(*six_rows()), Log(("a", []))]:
            for marks in [("x",), ("x", "start")]:
                check_error(self, EmptyLot, {}, steer, empty_lot(log), (("at", "a", marks),))
                check_error(self, EmptyLot, {}, steer, lot_of(log, (("floor", "a", 20),)), (("at", "a", marks),))


class SteeredTest(unittest.TestCase):

    def check_paper(self, rows, lot, held, tests, ties):
        right = steered_holds(rows, held, tests, ties)
        found = Steered(lot, tests, ties)
        self.assertIs(found.holds(), right, (lot.log.text(), held, tests, ties))
        self.assertEqual((found.told(), repr(found), bool(found)), ("steered", "Paper(steered)", True))
        return right

    def changed_ties(self, rng, rows, ties):
        steps = steps_of(rows) + [("q", 0), (rows[0][0], 19)]
        drawn = [("tie", rng.choice(steps), rng.choice(steps)) for _ in range(8)]
        for at, (kind, one, other) in enumerate(ties):
            ahead, behind = ties[:at], ties[at + 1:]
            yield ahead + behind
            yield ahead + (ties[at], ties[at]) + behind
            yield behind + (ties[at],) + ahead
            for changed in [(kind, other, one), (kind, one, one), (kind, one, rng.choice(steps)), (kind, one), None,
                            (kind, rng.choice(steps), other), [kind, one, other], (kind, list(one), other), "tie",
                            (kind, one, (other[0], bool(other[1]))), ("floor", one[0], 0), ("ceiling", one[0], 20),
                            ("lead", "a", "", "b", "", 9), ("pair", "a", "b", (("x", "x"),)), ("at", one[0], ("x",))]:
                yield ahead + (changed,) + behind
        for tie in drawn:
            yield ties + (tie,)
            yield (tie,)
        yield list(ties)
        yield ()

    def test_changed_papers(self):
        rng = seeded(205)
        counts = {True: 0, False: 0}
        for _ in range(120):
            rows = small_rows(rng, 4, 6)
            for lot, held in lots_with_merged_steps(rng, rows)[:4] if rows else []:
                found = steer(lot, random_tests(rng, rows))
                if found:
                    for ties in self.changed_ties(rng, rows, found.ties()):
                        counts[self.check_paper(rows, lot, held, found.tests, ties)] += 1
        self.assertTrue(min(counts.values()) > 300, counts)

    def test_ties_between_all_steps(self):
        rng = seeded(206)
        counts = {True: 0, False: 0}
        for _ in range(25):
            rows = small_rows(rng, 3, 6)
            for lot, held in lots_of_all_kinds(rng, rows) if len(rows) > 1 else []:
                tests = random_tests(rng, rows)
                for one in steps_of(rows):
                    for other in steps_of(rows) + [("q", 0)]:
                        counts[self.check_paper(rows, lot, held, tests, (("tie", one, other),))] += 1
        self.assertTrue(min(counts.values()) > 100, counts)

    def test_other_values(self):
        log = Log.read("a: x y\nb: z\n")
        tests = (("at", "a", ("x", "y", "start")),)
        self.assertIs(Steered(whole_lot(log), tests, ()).holds(), True)
        self.assertIs(Steered(lot=whole_lot(log), tests=tests, ties=[]).holds(), True)
        for lot in [empty_lot(log), lot_of(log, (("floor", "a", 3),))]:
            self.assertIs(Steered(lot, tests, ()).holds(), False)
        for value in ODD_VALUES + [list(tests), tests * 2, tests + (None,), (("at", "q", ("x",)),), (list(tests[0]),)]:
            self.assertIs(Steered(whole_lot(log), value, ()).holds(), False)
        for value in NO_TESTS:
            self.assertIs(Steered(whole_lot(log), (value,), ()).holds(), False)
            self.assertIs(Steered(whole_lot(log), tests + (value,), ()).holds(), False)
        for value in ODD_VALUES:
            self.assertIs(Steered(whole_lot(log), tests, value).holds(), value in ([], ()))
            self.assertIs(Steered(whole_lot(log), tests, (value,)).holds(), False)

    def test_ties_are_told_as_a_tuple(self):
        lot = whole_lot(Log.read("a: x y\n"))
        for value in ODD_VALUES:
            expected = tuple(value) if value.__class__ is list else value
            found = Steered(lot, (), value).ties()
            self.assertEqual(found, expected)
            self.assertIs(found.__class__, expected.__class__)
        inner = [1]
        listed = [("tie", inner), inner]
        found = Steered(lot, inner, listed)
        inner.append(2)
        listed.clear()
        self.assertEqual((found.ties(), found.tests), ((("tie", [1]), [1]), [1]))
        found.ties()[1].append(3)
        self.assertEqual(found.ties(), (("tie", [1]), [1]))


class StuckTest(unittest.TestCase):

    def check_paper(self, rows, lot, held, tests, stretches):
        right = stuck_holds(rows, held, tests, stretches)
        found = Stuck(lot, tests, stretches)
        self.assertIs(found.holds(), right, (lot.log.text(), held, tests, stretches))
        self.assertEqual((found.told(), repr(found), bool(found)), ("stuck", "Paper(stuck)", False))
        return right

    def changed_lists(self, rng, rows, held, tests, stretches):
        for at, (process, first, last) in enumerate(stretches):
            ahead, behind = stretches[:at], stretches[at + 1:]
            yield ahead + behind
            yield ahead + [stretches[at], stretches[at]] + behind
            yield behind + [stretches[at]] + ahead
            for other in [(process, first + 1, last), (process, first, last + 1), ("q", first, last), None,
                          [process, first, last], (process, bool(first), last), (process, first), (process, first, "1"),
                          *stretches_in(rows, held, opposites_in(rows, tests)[at]), *stretches_in(rows, held, tests[at])]:
                yield ahead + [other] + behind
        yield tuple(stretches)
        yield []

    def test_changed_papers(self):
        rng = seeded(207)
        counts = {True: 0, False: 0}
        for _ in range(150):
            rows = small_rows(rng, 4, 7)
            for lot, held in lots_with_merged_steps(rng, rows)[:4] if rows else []:
                found = steer(lot, random_tests(rng, rows))
                if not found:
                    for changed in self.changed_lists(rng, rows, held, found.tests, found.stretches()):
                        counts[self.check_paper(rows, lot, held, found.tests, changed)] += 1
        self.assertTrue(min(counts.values()) > 200, counts)

    def test_a_test_without_opposite(self):
        rows = [("a", [("x", 0, None)])]
        lot = whole_lot(Log(*rows))
        for stretches in [[("a", 0, 1)], [("a", 1, 1)], [None], []]:
            self.assertFalse(self.check_paper(rows, lot, held_moments(rows, ()), (("at", "a", ("start", "x")),), stretches))
        self.assertTrue(self.check_paper(rows, lot, held_moments(rows, ()), (("at", "a", ("x",)),), [("a", 0, 0)]))

    def test_other_values(self):
        log = Log.read("a: x y\nb: z\n")
        tests, stretches = (("at", "a", ("x",)),), [("a", 2, 2)]
        self.assertIs(Stuck(whole_lot(log), tests, stretches).holds(), True)
        self.assertIs(Stuck(lot=whole_lot(log), tests=tests, stretches=stretches).holds(), True)
        self.assertIs(Stuck(empty_lot(log), tests, stretches).holds(), False)
        for value in ODD_VALUES + [list(tests), tests * 2, tests + (None,), (("at", "q", ("x",)),), (list(tests[0]),)]:
            self.assertIs(Stuck(whole_lot(log), value, stretches).holds(), False)
        for value in NO_TESTS:
            self.assertIs(Stuck(whole_lot(log), (value,), stretches).holds(), False)
        for value in ODD_VALUES:
            self.assertIs(Stuck(whole_lot(log), tests, value).holds(), False)
            self.assertIs(Stuck(whole_lot(log), tests, [value]).holds(), False)
            expected = list(value) if value.__class__ is tuple else value
            self.assertEqual(Stuck(whole_lot(log), tests, value).stretches(), expected)

    def test_the_classes(self):
        for paper, names in [(Steered, ["__init__", "ties", "holds", "__bool__", "steered_lot"]),
                             (Stuck, ["__init__", "stretches", "holds"])]:
            self.assertTrue(issubclass(paper, Paper))
            for name in names:
                self.assertIn(name, vars(paper))
        self.assertEqual((Steered.WORD, Stuck.WORD), ("steered", "stuck"))
        for value in ODD_VALUES:
            self.assertIs(bool(Steered(whole_lot(Log()), value, value)), True)
            self.assertIs(bool(Stuck(whole_lot(Log()), value, value)), False)


if __name__ == "__main__":
    unittest.main()
