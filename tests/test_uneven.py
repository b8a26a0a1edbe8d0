"""Moments with a total that lies between the least and the greatest one."""

import unittest

from tests.helper import blocks_in, check_error, closed_condition, held_moments, lots_of_all_kinds, seeded, small_rows
from tests.test_best import weight_in
from tests.test_totals import total_of
from tiedmoments.errors import EmptyLot, Uneven
from tiedmoments.logs import Log
from tiedmoments.lots import empty_lot, lot_of, whole_lot
from tiedmoments.sums import with_total


def with_numbers(rng, rows, numbers):
    return [(name, [(mark, rng.choice(numbers), deed) for mark, number, deed in steps]) for name, steps in rows]


class WithTotalTest(unittest.TestCase):

    def check_lot(self, rows, lot, held):
        """Checks all numbers around the totals, or the first uneven block; returns whether there is one."""
        shown = (Log(*rows).text(), held)
        for block in blocks_in(rows, held):
            if abs(sum(weight_in(rows, step, None, 1) for step in block)) > 1:
                check_error(self, Uneven, {"block": block}, with_total, lot, 0)
                check_error(self, Uneven, {"block": block}, with_total, number=-500, lot=lot)
                return True
        totals = {moment: total_of(rows, moment, None) for moment in held}
        for number in range(min(totals.values()) - 2, max(totals.values()) + 3):
            found = with_total(lot, number)
            self.assertEqual(found, with_total(number=number, lot=lot))
            if min(totals.values()) <= number <= max(totals.values()):
                self.assertEqual(totals[found], number, shown)
                self.assertIs(found.__class__, tuple)
            else:
                self.assertIsNone(found, shown)
        return False

    def test_numbers_from_minus_one_to_one(self):
        rng = seeded(161)
        for _ in range(250):
            rows = with_numbers(rng, small_rows(rng, 4, 8), [-1, 0, 1])
            condition = tuple(clause for clause in closed_condition(rng, rows, 2) if clause[0] != "at")
            held = held_moments(rows, condition)
            if held:
                self.check_lot(rows, lot_of(Log(*rows), condition), held)
            self.check_lot(rows, whole_lot(Log(*rows)), held_moments(rows, ()))

    def test_greater_numbers(self):
        rng = seeded(162)
        uneven = 0
        for _ in range(150):
            rows = with_numbers(rng, small_rows(rng), [-2, -1, 0, 1, 2])
            for lot, held in lots_of_all_kinds(rng, rows):
                if held:
                    uneven += self.check_lot(rows, lot, held)
        self.assertGreater(uneven, 100)

    def test_numbers_that_make_up_for_one_another_in_a_block(self):
        rows = [("a", [("x", 9, None), ("y", -8, None)]), ("b", [("x", -1, None)])]
        lot = lot_of(Log(*rows), (("at", "a", ("start", "y")),))
        self.assertEqual([with_total(lot, number) for number in (-2, -1, 1, 2)], [None, (0, 1), (2, 0), None])
        self.assertIn(with_total(lot, 0), [(0, 0), (2, 1)])
        self.check_lot(rows, lot, held_moments(rows, (("at", "a", ("start", "y")),)))

    def test_the_least_moment_may_have_any_total(self):
        rows = [("a", [("x", 50, None), ("y", -1, None), ("x", 1, None), ("x", 1, None)])]
        lot = lot_of(Log(*rows), (("floor", "a", 1),))
        self.assertEqual([with_total(lot, number) for number in (48, 49, 51, 52)], [None, (2,), (4,), None])
        self.assertIn(with_total(lot, 50), [(1,), (3,)])

    def test_the_first_uneven_block(self):
        log = Log.read("a: x=2\nb: y=-2\n")
        check_error(self, Uneven, {"block": (("b", 0),)}, with_total, whole_lot(log), 0)
        log = Log.read("a: x=1 y=1 x=3\nb: y=-1\n")
        lot = lot_of(log, (("at", "a", ("start", "y", "x")), ("tie", ("a", 0), ("a", 1))))
        check_error(self, Uneven, {"block": (("a", 0), ("a", 1))}, with_total, lot, 0)

    def test_the_empty_lot(self):
        log = Log.read("a: x=2\n")
        for lot in [empty_lot(log), empty_lot(Log()), lot_of(log, (("floor", "a", 2),))]:
            check_error(self, EmptyLot, {}, with_total, lot, 0)
            check_error(self, EmptyLot, {}, with_total, number=5, lot=lot)

    def test_the_log_without_processes(self):
        lot = whole_lot(Log())
        self.assertEqual([with_total(lot, number) for number in (-1, 0, 1)], [None, (), None])


if __name__ == "__main__":
    unittest.main()
