"""Totals of moments, by the numbers of the steps and by weights."""

import unittest

from tests.helper import ODD_VALUES, check_error, moments_of, seeded, small_rows
from tiedmoments.errors import InvalidMoment, InvalidWeights
from tiedmoments.logs import Log
from tiedmoments.sums import total

RIGHT_WEIGHTS = [{}, {"x": 0}, {"x": 99}, {"x": -99, "y": 99}, {"abcd": 1, "z": 1, "y": -1, "x": 5}]
WRONG_WEIGHTS = [
    {"x": 100}, {"x": -100}, {"x": True}, {"x": False}, {"x": None}, {"x": "1"}, {"x": (1,)}, {"x": [1]}, {"x": {}},
    {"start": 1}, {"abcde": 1}, {"": 1}, {"X": 1}, {"x y": 1}, {"x1": 1}, {0: 1}, {1: 0}, {"x": 1, 2: 1}, {2: 1, "x": 1},
    {"x": 1, "y": 999999999}, {"y": [], "x": 1},
]


def weights_of(rng):
    words = rng.sample(["x", "y", "z", "w", "abcd"], rng.randint(0, 5))
    return {word: rng.choice([0, 1, -1, 2, -3, 99, -99]) for word in words}


def total_of(rows, moment, weights):
    """The total of a moment, from its definition."""
    made = [step for (name, steps), place in zip(rows, moment) for step in steps[:place]]
    return sum(number if weights is None else weights.get(mark, 0) for mark, number, deed in made)


class TotalTest(unittest.TestCase):

    def test_all_moments_with_and_without_weights(self):
        rng = seeded(141)
        for _ in range(150):
            rows = small_rows(rng)
            log = Log(*rows)
            weights = weights_of(rng)
            turned = dict(reversed(list(weights.items())))
            for moment in moments_of(rows):
                self.assertEqual(total(log, moment), total_of(rows, moment, None))
                self.assertEqual(total(log=log, moment=moment, weights=None), total_of(rows, moment, None))
                self.assertEqual(total(log, moment, weights=weights), total_of(rows, moment, weights))
                self.assertEqual(total(weights=turned, moment=moment, log=log), total_of(rows, moment, weights))

    def test_weights_at_their_bounds(self):
        log = Log.read("a: x=99 y=-99 abcd z\nb: x x\n")
        for weights in RIGHT_WEIGHTS:
            kept = list(weights.items())
            self.assertEqual(total(log, (4, 2), weights=weights), total_of(log.rows(), (4, 2), weights))
            self.assertEqual(list(weights.items()), kept)

    def test_other_marks_weigh_nothing(self):
        log = Log.read("a: x=5 y=7\n")
        self.assertEqual([total(log, (2,), weights={}), total(log, (2,), weights={"y": 3, "q": 9})], [0, 3])
        self.assertEqual(total(Log(), ()), 0)

    def test_points_that_are_no_moments(self):
        log = Log.read("a: x!m y\nb: z?m\n")
        for value in ODD_VALUES + [(0, 1), (3, 0), (0,), [0, 0], (True, 0), (0, False), (0, 0, 0), (-1, 0)]:
            for weights in [None, {"x": 1}, {"x": 100}, 5, []]:
                check_error(self, InvalidMoment, {"value": value}, total, log, value, weights=weights)
                check_error(self, InvalidMoment, {"value": value}, total, weights=weights, moment=value, log=log)

    def test_wrong_weights(self):
        log = Log.read("a: x!m y\nb: z?m\n")
        for value in WRONG_WEIGHTS + [value for value in ODD_VALUES if value is not None]:
            kept = repr(value)
            check_error(self, InvalidWeights, {}, total, log, (1, 1), weights=value)
            check_error(self, InvalidWeights, {}, total, log=log, moment=(0, 0), weights=value)
            self.assertEqual(repr(value), kept)

    def test_weights_are_passed_by_name_only(self):
        with self.assertRaises(TypeError):
            total(Log(), (), None)


if __name__ == "__main__":
    unittest.main()
