"""Whether every course of a lot passes a moment at which all tests hold, and the papers that show it."""

import unittest

from tests.helper import ODD_VALUES, all_tests_hold, courses_in, held_moments, join, lots_of_all_kinds, meet, overlap_in
from tests.helper import random_tests, seeded, small_rows, stretches_in
from tests.test_stretches import NO_TESTS
from tiedmoments.climbs import Paper
from tiedmoments.courses import Avoid, Sure, every
from tiedmoments.logs import Log
from tiedmoments.lots import empty_lot, lot_of, whole_lot


def plain(value):
    """Whether all numbers in a value are numbers: True equals 1, but is none."""
    if value.__class__ in (tuple, list):
        return all(plain(item) for item in value)
    return value.__class__ is not bool


def sure_holds(rows, held, tests, stretches):
    """Whether a list has a stretch of each right test, and each two of them overlap surely."""
    if stretches.__class__ not in (list, tuple) or len(stretches) != len(tests) or not held:
        return False
    for test, stretch in zip(tests, stretches):
        if not plain(stretch) or stretch.__class__ is not tuple or stretch not in stretches_in(rows, held, test):
            return False
    return all(overlap_in(rows, held, one, other) for one in stretches for other in stretches if one != other)


def avoid_holds(rows, courses, tests, course):
    """Whether a value is one of all courses and passes no moment at which all right tests hold."""
    if course.__class__ not in (list, tuple) or not plain(course) or list(course) not in courses:
        return False
    return not any(all_tests_hold(rows, tests, moment) for moment in course)


def lots_with_merged_steps(rng, rows):
    """Lots of all kinds, and one in which steps are tied to one another in both directions."""
    found = lots_of_all_kinds(rng, rows)
    steps = [(name, index) for name, made in rows for index in range(len(made))]
    if len(steps) > 1:
        one, other = rng.sample(steps, 2)
        condition = (("tie", one, other), ("tie", other, one))
        found.append((lot_of(Log(*rows), condition), held_moments(rows, condition)))
    return [(lot, held) for lot, held in found if held]


class EveryTest(unittest.TestCase):

    def check_every(self, rows, lot, held, tests):
        """Checks the paper and returns its word."""
        shown = (lot.log.text(), held, tests)
        found = every(lot, tests)
        courses = courses_in(rows, held)
        sure = all(any(all_tests_hold(rows, tests, moment) for moment in course) for course in courses)
        self.assertIs(found.__class__, Sure if sure else Avoid, shown)
        self.assertIs(found.holds(), True, shown)
        self.assertIs(bool(found), sure)
        word = "sure" if sure else "avoid"
        self.assertEqual((found.WORD, found.told(), repr(found)), (word, word, f"Paper({word})"))
        self.assertEqual((found.lot, found.tests), (lot, tests))
        if sure:
            self.assertTrue(sure_holds(rows, held, tests, found.stretches()), shown)
            self.assertIs(found.stretches().__class__, list)
        else:
            self.assertTrue(avoid_holds(rows, courses, tests, found.course()), shown)
            self.assertIs(found.course().__class__, list)
        again = every(tests=tests, lot=lot)
        self.assertEqual(again.stretches() if sure else again.course(), found.stretches() if sure else found.course())
        return word

    def test_lots_with_merged_steps(self):
        rng = seeded(181)
        found = {"sure": 0, "avoid": 0}
        for _ in range(120):
            rows = small_rows(rng, 4, 6)
            for lot, held in lots_with_merged_steps(rng, rows) if rows else []:
                found[self.check_every(rows, lot, held, random_tests(rng, rows))] += 1
        self.assertTrue(min(found.values()) > 100, found)

    def test_messages_that_force_an_overlap(self):
        rows = [("a", [("x", 0, ("send", "k")), ("y", 0, ("receive", "l"))]),
                ("b", [("x", 0, ("send", "l")), ("y", 0, ("receive", "k"))])]
        tests = (("at", "a", ("x",)), ("at", "b", ("x",)))
        found = every(whole_lot(Log(*rows)), tests)
        self.assertEqual((found.WORD, found.stretches()), ("sure", [("a", 1, 1), ("b", 1, 1)]))
        self.check_every(rows, whole_lot(Log(*rows)), held_moments(rows, ()), tests)
        rows[0][1][1] = ("y", 0, None)
        self.check_every(rows, whole_lot(Log(*rows)), held_moments(rows, ()), tests)
        self.assertEqual(every(whole_lot(Log(*rows)), tests).WORD, "avoid")

    def test_a_stretch_that_begins_with_the_block_with_which_another_one_ends(self):
        rows = [("a", [("x", 0, None), ("y", 0, None)]), ("b", [("y", 0, None), ("x", 0, None)])]
        condition = (("tie", ("a", 1), ("b", 1)), ("tie", ("b", 1), ("a", 1)))
        lot, held = lot_of(Log(*rows), condition), held_moments(rows, condition)
        for tests in [(("at", "a", ("x",)), ("at", "b", ("x",))), (("at", "b", ("x",)), ("at", "a", ("x",)))]:
            self.assertEqual(self.check_every(rows, lot, held, tests), "avoid")
        self.assertEqual(self.check_every(rows, lot, held, (("at", "a", ("x",)), ("at", "b", ("y", "start")))), "sure")

    def test_one_test(self):
        rows = [("a", [("x", 0, None), ("y", 0, None)])]
        held = held_moments(rows, ())
        for marks, word in [(("x",), "sure"), (("start",), "sure"), (("y",), "sure"), (("z",), "avoid")]:
            self.assertEqual(self.check_every(rows, whole_lot(Log(*rows)), held, (("at", "a", marks),)), word)


class SureTest(unittest.TestCase):

    def changed_lists(self, rng, rows, held, tests, stretches):
        every_stretch = [stretch for test in tests for stretch in stretches_in(rows, held, test)]
        for at, (process, first, last) in enumerate(stretches):
            ahead, behind = stretches[:at], stretches[at + 1:]
            yield ahead + behind
            yield ahead + [stretches[at], stretches[at]] + behind
            yield behind + [stretches[at]] + ahead
            for other in [(process, first + 1, last), (process, first, last + 1), (process, first - 1, last),
                          (process, last, first), ("q", first, last), [process, first, last], (process, first),
                          (process, first, last, 0), (process, bool(first), last), (process, first, bool(last)), None,
                          (process, str(first), last), ([process], first, last), rng.choice(every_stretch)]:
                yield ahead + [other] + behind
            for other in stretches_in(rows, held, tests[at]):
                yield ahead + [other] + behind
        yield stretches[::-1]
        yield tuple(stretches)
        yield []

    def test_changed_papers(self):
        rng = seeded(182)
        counts = {True: 0, False: 0}
        for _ in range(150):
            rows = small_rows(rng, 4, 7)
            for lot, held in lots_with_merged_steps(rng, rows)[:4] if rows else []:
                tests = random_tests(rng, rows)
                found = every(lot, tests)
                if found:
                    for changed in self.changed_lists(rng, rows, held, tests, found.stretches()):
                        right = sure_holds(rows, held, tests, changed)
                        self.assertIs(Sure(lot, tests, changed).holds(), right, (lot.log.text(), held, tests, changed))
                        counts[right] += 1
        self.assertTrue(min(counts.values()) > 200, counts)

    def test_all_choices_of_stretches(self):
        rng = seeded(183)
        for _ in range(100):
            rows = small_rows(rng, 3, 7)
            for lot, held in lots_with_merged_steps(rng, rows) if len(rows) > 1 else []:
                tests = tuple(("at", name, ("x", "start")) for name, steps in rows[:2])
                for one in stretches_in(rows, held, tests[0]):
                    for other in stretches_in(rows, held, tests[1]):
                        right = overlap_in(rows, held, one, other)
                        self.assertIs(Sure(lot, tests, [one, other]).holds(), right, (lot.log.text(), held, one, other))

    def test_other_lots_and_other_tests(self):
        log = Log.read("a: x y\nb: z\n")
        tests, stretches = (("at", "a", ("x",)),), [("a", 1, 1)]
        self.assertIs(Sure(whole_lot(log), tests, stretches).holds(), True)
        self.assertIs(Sure(lot=whole_lot(log), tests=tests, stretches=stretches).holds(), True)
        self.assertIs(Sure(empty_lot(log), tests, stretches).holds(), False)
        self.assertIs(Sure(lot_of(log, (("floor", "a", 2),)), tests, stretches).holds(), False)
        for value in ODD_VALUES + [list(tests), tests * 2, tests + (None,), (("at", "q", ("x",)),), (list(tests[0]),)]:
            self.assertIs(Sure(whole_lot(log), value, stretches).holds(), False)
        for value in NO_TESTS:
            self.assertIs(Sure(whole_lot(log), (value,), stretches).holds(), False)
            self.assertIs(Sure(whole_lot(log), tests + (value,), stretches).holds(), False)
        for value in ODD_VALUES:
            self.assertIs(Sure(whole_lot(log), tests, value).holds(), False)
            self.assertIs(Sure(whole_lot(log), tests, [value]).holds(), False)


class AvoidTest(unittest.TestCase):

    def changed_courses(self, rng, held, course):
        for at, moment in enumerate(course):
            ahead, behind = course[:at], course[at + 1:]
            yield ahead + behind
            yield ahead + [moment, moment] + behind
            yield behind + [moment] + ahead
            for other in [rng.choice(held), list(moment), moment + (0,), moment[1:], None, tuple(map(bool, moment)), "ab"]:
                yield ahead + [other] + behind
                yield ahead + [moment, other] + behind
        yield course[::-1]
        yield tuple(course)
        yield []
        yield [meet(*held), join(*held)]

    def check_avoid(self, rows, lot, held, courses, tests, course):
        right = avoid_holds(rows, courses, tests, course)
        found = Avoid(lot, tests, course)
        self.assertIs(found.holds(), right, (lot.log.text(), held, tests, course))
        self.assertEqual((found.told(), repr(found), bool(found)), ("avoid", "Paper(avoid)", False))
        return right

    def test_changed_papers(self):
        rng = seeded(184)
        counts = {True: 0, False: 0}
        for _ in range(120):
            rows = small_rows(rng, 4, 6)
            for lot, held in lots_with_merged_steps(rng, rows)[:4] if rows else []:
                tests = random_tests(rng, rows)
                found = every(lot, tests)
                courses = courses_in(rows, held)
                if not found:
                    for changed in self.changed_courses(rng, held, found.course()):
                        counts[self.check_avoid(rows, lot, held, courses, tests, changed)] += 1
        self.assertTrue(counts[True] > 100 and counts[False] > 1000, counts)

    def test_courses_drawn_at_random(self):
        rng = seeded(185)
        counts = {True: 0, False: 0}
        for _ in range(100):
            rows = small_rows(rng, 4, 6)
            for lot, held in lots_with_merged_steps(rng, rows) if rows else []:
                courses = courses_in(rows, held)
                tests = random_tests(rng, rows)
                for course in rng.sample(courses, min(6, len(courses))):
                    counts[self.check_avoid(rows, lot, held, courses, tests, course)] += 1
        self.assertTrue(min(counts.values()) > 100, counts)

    def test_courses_of_other_lots_do_not_hold(self):
        rng = seeded(186)
        for _ in range(60):
            rows = small_rows(rng, 3, 6)
            lots = lots_with_merged_steps(rng, rows) if rows else []
            tests = random_tests(rng, rows) if rows else ()
            for lot, held in lots:
                for strange, _ in lots:
                    self.check_avoid(rows, lot, held, courses_in(rows, held), tests, list(strange.walk()))

    def test_other_lots_and_other_tests(self):
        log = Log.read("a: x y\nb: z\n")
        tests, course = (("at", "a", ("z",)),), [(0, 0), (1, 0), (1, 1), (2, 1)]
        self.assertIs(Avoid(whole_lot(log), tests, course).holds(), True)
        self.assertIs(Avoid(lot=whole_lot(log), tests=tests, course=course).holds(), True)
        for lot in [empty_lot(log), lot_of(log, (("ceiling", "a", 1),)), whole_lot(Log.read("a: x y\nb: z z\n"))]:
            self.assertIs(Avoid(lot, tests, course).holds(), False)
            self.assertIs(Avoid(lot, tests, []).holds(), False)
        for value in ODD_VALUES + [list(tests), tests * 2, tests + (None,), (("at", "q", ("x",)),), (list(tests[0]),)]:
            self.assertIs(Avoid(whole_lot(log), value, course).holds(), False)
        for value in NO_TESTS:
            self.assertIs(Avoid(whole_lot(log), (value,), course).holds(), False)
        for value in ODD_VALUES:
            self.assertIs(Avoid(whole_lot(log), tests, value).holds(), False)
            self.assertIs(Avoid(whole_lot(log), tests, [value]).holds(), False)
            self.assertIs(Avoid(whole_lot(log), tests, course + [value]).holds(), False)

    def test_the_classes(self):
        for paper, names in [(Sure, ["__init__", "stretches", "holds", "__bool__"]), (Avoid, ["__init__", "course", "holds"])]:
            self.assertTrue(issubclass(paper, Paper))
            for name in names:
                self.assertIn(name, vars(paper))
        self.assertEqual((Sure.WORD, Avoid.WORD), ("sure", "avoid"))
        for value in ODD_VALUES:
            self.assertIs(bool(Sure(whole_lot(Log()), value, value)), True)
            self.assertIs(bool(Avoid(whole_lot(Log()), value, value)), False)


if __name__ == "__main__":
    unittest.main()
