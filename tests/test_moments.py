"""Points and moments, the first and the last one, and all moments in order."""

import itertools
import unittest

from tests.helper import ODD_VALUES, is_moment_of, moments_of, points_of, random_rows, seeded, small_rows
from tiedmoments.logs import Log
from tiedmoments.moments import first_moment, is_moment, is_point, last_moment, moments


def many_rows(many=150):
    rng = seeded(31)
    return [small_rows(rng) for _ in range(many)] + [[], [("a", [])]]


def changed_points(rng, rows):
    """Points with one place changed, most of them no points any more."""
    for point in rng.sample(points_of(rows), min(5, len(points_of(rows)))):
        for at, place in enumerate(point):
            for other in [-1, len(rows[at][1]), len(rows[at][1]) + 1, 21, True, False, None, "1", (1,), [0], "start"]:
                yield (*point[:at], other, *point[at + 1:])
        yield point[1:]
        yield point[:-1]
        yield (*point, 0)
        yield list(point)
        yield (point,)


def is_point_of(rows, value):
    """Whether a value is a point; by classes, as True equals 1."""
    if value.__class__ is not tuple or len(value) != len(rows):
        return False
    return all(place.__class__ is int and place in range(len(steps) + 1) for place, (name, steps) in zip(value, rows))


class PointTest(unittest.TestCase):

    def check_value(self, rows, value):
        log = Log(*rows)
        right = is_point_of(rows, value)
        self.assertIs(is_point(log, value), right, (rows, value))
        self.assertIs(is_point(log=log, value=value), right)
        right = right and is_moment_of(rows, value)
        self.assertIs(is_moment(log, value), right, (rows, value))
        self.assertIs(is_moment(value=value, log=log), right)

    def test_points_and_moments(self):
        for rows in many_rows():
            for point in points_of(rows):
                self.check_value(rows, point)

    def test_points_with_a_changed_place(self):
        rng = seeded(32)
        for rows in many_rows(60):
            for value in changed_points(rng, rows):
                self.check_value(rows, value)

    def test_other_values(self):
        for rows in many_rows(20):
            for value in ODD_VALUES + [(), (0,), (0, 0), (0, 0, 0), [0], [0, 0], (True,), (False,), "0", 0]:
                self.check_value(rows, value)

    def test_a_received_message_needs_its_sending_step(self):
        log = Log(("a", [("x", 0, ("receive", "m"))]), ("b", [("y", 0, None), ("y", 0, ("send", "m"))]))
        self.assertEqual([is_moment(log, (1, place)) for place in range(3)], [False, False, True])
        self.assertEqual([is_point(log, (1, place)) for place in range(4)], [True, True, True, False])

    def test_a_message_that_is_under_way_asks_for_nothing(self):
        log = Log(("a", [("x", 0, ("send", "m"))]), ("b", []))
        self.assertTrue(is_moment(log, (0, 0)) and is_moment(log, (1, 0)))

    def test_the_first_and_the_last_moment(self):
        rng = seeded(33)
        for rows in many_rows(40) + [random_rows(rng) for _ in range(20)]:
            log = Log(*rows)
            first, last = first_moment(log), last_moment(log=log)
            self.assertEqual((first, last), ((0,) * len(rows), tuple(len(steps) for name, steps in rows)))
            self.assertEqual((first.__class__, last.__class__), (tuple, tuple))
            self.assertIs(is_moment(log, first_moment(log=log)), True)
            self.assertIs(is_moment(log, last), True)


class MomentsTest(unittest.TestCase):

    def test_all_moments_in_order(self):
        for rows in many_rows():
            log = Log(*rows)
            found = list(moments(log))
            self.assertEqual(found, moments_of(rows), rows)
            self.assertTrue(all(moment.__class__ is tuple for moment in found))
            self.assertEqual(list(moments(log=log)), found)

    def test_the_example(self):
        log = Log(("a", [("x", 1, None), ("y", 0, ("send", "m"))]), ("b", [("z", -2, ("receive", "m"))]))
        self.assertEqual(list(moments(log)), [(0, 0), (1, 0), (2, 0), (2, 1)])

    def test_the_log_without_processes_has_one_moment(self):
        self.assertEqual(list(moments(Log())), [()])

    def test_those_with_equal_sums_ascend_as_tuples(self):
        log = Log(("b", [("x", 0, None)] * 2), ("a", [("x", 0, None)] * 2))
        expected = [(0, 0), (0, 1), (1, 0), (0, 2), (1, 1), (2, 0), (1, 2), (2, 1), (2, 2)]
        self.assertEqual(list(moments(log)), expected)

    def test_in_turns(self):
        for rows in many_rows(30):
            log = Log(*rows)
            one, other = moments(log), moments(log)
            pairs = list(itertools.zip_longest(one, other))
            self.assertEqual(pairs, [(moment, moment) for moment in moments_of(rows)])

    def test_one_behind_the_other(self):
        for rows in many_rows(30):
            log = Log(*rows)
            one, other = moments(log), moments(log)
            begun = list(itertools.islice(one, 2))
            self.assertEqual(list(other), moments_of(rows))
            self.assertEqual(begun + list(one), moments_of(rows))
            self.assertEqual(list(one), [])

    def test_the_first_ones_of_a_log_with_very_many(self):
        log = Log(*[(name, [("x", 0, None)] * 20) for name in "abcdef"])
        points = itertools.product(range(4), repeat=6)
        expected = sorted([point for point in points if sum(point) < 4], key=lambda point: (sum(point), point))
        self.assertEqual(list(itertools.islice(moments(log), len(expected))), expected)

    def test_it_is_a_generator(self):
        found = moments(Log(("a", [("x", 0, None)])))
        self.assertIs(iter(found), found)
        self.assertEqual([next(found), next(found), next(found, "end")], [(0,), (1,), "end"])


if __name__ == "__main__":
    unittest.main()
