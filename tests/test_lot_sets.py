"""Lots as sets: meets and joins, within, beyond, equal ones, and those of unlike logs."""

import unittest

from tests.helper import ODD_VALUES, check_error, closed_condition, closure, held_moments, is_below, lots_of_all_kinds
from tests.helper import meet, moments_of, need_in, seeded, small_rows, steps_of
from tiedmoments.errors import UnlikeLogs
from tiedmoments.logs import Log
from tiedmoments.lots import Lot, empty_lot, lot_of, whole_lot


def both(one, other):
    return one & other


def either(one, other):
    return one | other


class SetTest(unittest.TestCase):

    def check_pair(self, rows, one, held, other, second):
        shown = (Log(*rows).text(), held, second)
        self.assertEqual(list((one & other).moments()), [moment for moment in held if moment in second], shown)
        joined = one | other
        self.assertEqual(list(joined.moments()), closure(held + second), shown)
        for step in steps_of(rows):
            needs = [need for need in (need_in(rows, held, step), need_in(rows, second, step)) if need is not None]
            self.assertEqual(joined.need(step), meet(*needs) if needs else None, shown)
        outside = [moment for moment in held if moment not in second]
        self.assertEqual(one.beyond(other), outside[0] if outside else None, shown)
        self.assertEqual(one.beyond(other=other), one.beyond(other))
        self.assertIs(one.is_within(other), outside == [], shown)
        self.assertIs(one.is_within(other=other), outside == [])
        self.assertIs(one == other, held == second, shown)
        self.assertIs(one != other, held != second)
        self.assertEqual((list(one.moments()), list(other.moments())), (held, second))
        for lot in (one & other, joined):
            self.assertIs(lot.__class__, Lot)
            self.assertEqual(lot.log, one.log)

    def test_all_pairs_of_lots_of_all_kinds(self):
        rng = seeded(111)
        for _ in range(60):
            rows = small_rows(rng, 4, 6)
            lots = lots_of_all_kinds(rng, rows)
            for one, held in lots:
                for other, second in lots:
                    self.check_pair(rows, one, held, other, second)

    def test_lots_of_conditions_that_are_put_together(self):
        rng = seeded(112)
        for _ in range(150):
            rows = small_rows(rng)
            log = Log(*rows)
            one, other = closed_condition(rng, rows), closed_condition(rng, rows)
            self.assertEqual(lot_of(log, one) & lot_of(log, other), lot_of(log, one + other))
            self.check_pair(rows, lot_of(log, one), held_moments(rows, one), lot_of(log, other), held_moments(rows, other))

    def test_the_least_lot_in_which_both_lie(self):
        rng = seeded(113)
        for _ in range(60):
            rows = small_rows(rng)
            lots = lots_of_all_kinds(rng, rows)
            for one, _ in lots:
                for other, _ in lots:
                    joined = one | other
                    self.assertIs(one.is_within(joined) and other.is_within(joined), True)
                    for third, _ in lots:
                        if one.is_within(third) and other.is_within(third):
                            self.assertIs(joined.is_within(third), True)

    def test_laws(self):
        rng = seeded(114)
        for _ in range(40):
            lots = [lot for lot, held in lots_of_all_kinds(rng, small_rows(rng))]
            for one in lots:
                self.assertEqual((one & one, one | one), (one, one))
                for other in lots:
                    self.assertEqual((one & other, one | other), (other & one, other | one))
                    self.assertEqual((one & (one | other), one | (one & other)), (one, one))

    def test_beyond_is_the_first_one_in_order(self):
        log = Log.read("a: x x\nb: y y\n")
        lot = lot_of(log, (("tie", ("a", 0), ("b", 1)),))
        self.assertEqual(whole_lot(log).beyond(lot), (1, 0))
        self.assertIsNone(lot.beyond(whole_lot(log)))
        self.assertEqual(whole_lot(log).beyond(empty_lot(log)), (0, 0))
        self.assertIsNone(empty_lot(log).beyond(lot))
        self.assertEqual(whole_lot(log).beyond(lot_of(log, (("ceiling", "a", 0), ("ceiling", "b", 1)))), (1, 0))
        self.assertEqual(whole_lot(log).beyond(lot_of(log, (("ceiling", "b", 0), ("ceiling", "a", 1)))), (0, 1))


class EqualTest(unittest.TestCase):

    def test_a_lot_equals_nothing_else(self):
        log = Log.read("a: x\n")
        for lot in [whole_lot(log), empty_lot(log)]:
            for value in ODD_VALUES + [list(lot.moments()), log, None, lot.least, "Lot(1 blocks)"]:
                self.assertIs(lot == value, False)
                self.assertIs(lot != value, True)

    def test_equal_logs_and_equal_moments(self):
        one, other = Log.read("a: x y\nb: z\n"), Log.read("a: x y\nb: z\n")
        self.assertIs(whole_lot(one) == whole_lot(other), True)
        self.assertIs(lot_of(one, (("at", "a", ("x",)),)) == lot_of(other, (("floor", "a", 1), ("ceiling", "a", 1))), True)
        self.assertIs(empty_lot(one) == lot_of(other, (("floor", "b", 2),)), True)
        for text in ["a: x y\nb: u\n", "b: z\na: x y\n", "a: x y\nc: z\n", "a: x y\nb: z=1\n", "a: x y\nb: z!m\n"]:
            self.assertIs(whole_lot(one) == whole_lot(Log.read(text)), False)
            self.assertIs(empty_lot(one) == empty_lot(Log.read(text)), False)


class UnlikeTest(unittest.TestCase):

    def test_lots_of_other_logs(self):
        texts = ["", "a:\n", "a: x\n", "a: y\n", "a: x=1\n", "b: x\n", "a: x\nb:\n", "b:\na: x\n", "a: x!m\n", "a: x x\n"]
        for text in texts:
            for second in texts:
                one, other = Log.read(text), Log.read(second)
                for lot, strange in [(whole_lot(one), whole_lot(other)), (empty_lot(one), empty_lot(other)),
                                     (whole_lot(one), empty_lot(other)), (empty_lot(one), whole_lot(other))]:
                    if text != second:
                        for call in [both, either, lot.is_within.__func__, lot.beyond.__func__]:
                            check_error(self, UnlikeLogs, {}, call, lot, strange)
                    else:
                        self.assertIs((lot & strange).is_within(lot), True)
                        self.assertIs(lot.is_within(lot | strange), True)

    def test_values_that_are_no_lots(self):
        log = Log.read("a: x\n")
        for value in [None, 0, log, [], [(0,), (1,)], (0,)]:
            for call in [both, either, Lot.is_within, Lot.beyond]:
                check_error(self, UnlikeLogs, {}, call, whole_lot(log), value)


class NeedTest(unittest.TestCase):

    def test_a_moment_is_in_a_lot_exactly_if_it_has_the_needs(self):
        rng = seeded(115)
        for _ in range(60):
            rows = small_rows(rng)
            for lot, held in lots_of_all_kinds(rng, rows):
                for moment in moments_of(rows):
                    steps = [(name, index) for (name, _), place in zip(rows, moment) for index in range(place)]
                    needs = [lot.need(step) for step in steps]
                    right = lot.least is not None and is_below(lot.least, moment)
                    right = right and all(need is not None and is_below(need, moment) for need in needs)
                    self.assertIs(right, moment in held)


if __name__ == "__main__":
    unittest.main()
