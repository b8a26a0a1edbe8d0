"""Lots, sums and courses: what was handed in may be changed, returned lists are new, methods stand in their classes."""

import unittest

from tests.helper import ODD_VALUES
from tiedmoments.courses import Avoid, Sure, check_tests, every, opposite, stretches
from tiedmoments.logs import Log
from tiedmoments.lots import Lot, empty_lot, lot_of, whole_lot
from tiedmoments.sums import Best, best, total, with_total

LOT_METHODS = """least greatest need above below moments many blocks places ties walk beyond is_within __and__ __or__
    __eq__ __contains__ __bool__ __repr__""".split()
TESTS = (("at", "a", ("x",)),)


def sample_log():
    return Log.read("a: x=1!m y\nb: z=-1?m\n")


class LotTest(unittest.TestCase):

    def test_the_methods_stand_in_the_class_itself(self):
        for name in LOT_METHODS:
            self.assertIn(name, vars(Lot))

    def test_properties_cannot_be_assigned(self):
        lot = whole_lot(sample_log())
        for name in ["least", "greatest"]:
            self.assertIsInstance(vars(Lot)[name], property)
            with self.assertRaises(AttributeError):
                setattr(lot, name, None)

    def test_each_lot_has_its_log_from_the_beginning(self):
        log = sample_log()
        one, other = lot_of(log, (("floor", "a", 1),)), lot_of(sample_log(), (("ceiling", "a", 1),))
        for lot in [one, whole_lot(log), empty_lot(log)]:
            self.assertIs(vars(lot)["log"], log)
        for lot in [one & other, one | other, one & empty_lot(log), one | empty_lot(log), empty_lot(log) | one]:
            self.assertEqual(vars(lot)["log"], log)
            for use in [lot.many, lot.blocks, lambda: lot.places("a"), lambda: lot.below((1, 0)), lambda: lot == one]:
                use()
            self.assertEqual((lot.log, one.log, other.log), (log, log, log))

    def test_what_was_handed_in_may_be_changed(self):
        steps = [("x", 1, ("send", "m")), ("y", 0, None)]
        rows = [("a", steps), ("b", [("z", -1, ("receive", "m"))])]
        lot = whole_lot(Log(*rows))
        steps.clear()
        rows.clear()
        self.assertEqual(lot, whole_lot(sample_log()))
        self.assertEqual(lot.greatest, (2, 1))

    def test_returned_lists_are_new(self):
        lot = lot_of(sample_log(), (("floor", "a", 1),))
        for call in [lot.blocks, lambda: lot.places("a"), lambda: list(lot.moments()), lambda: list(lot.walk()),
                     lambda: stretches(lot, TESTS[0]), lot.log.rows]:
            before = call()
            call().clear()
            call().append(None)
            self.assertEqual(call(), before)
            self.assertIsNot(call(), call())

    def test_meets_and_joins_leave_both_lots(self):
        log = sample_log()
        one, other = lot_of(log, (("floor", "a", 1),)), lot_of(log, (("ceiling", "a", 1),))
        before = [list(one.moments()), list(other.moments()), one.blocks(), other.blocks()]
        self.assertEqual([(one & other).many(), (one | other).many()], [2, 5])
        self.assertEqual([list(one.moments()), list(other.moments()), one.blocks(), other.blocks()], before)
        self.assertEqual([(one | empty_lot(log)), (empty_lot(log) | one), one & empty_lot(log)], [one, one, empty_lot(log)])

    def test_equal_calls_return_equal_results(self):
        one = lot_of(sample_log(), (("floor", "a", 1), ("ceiling", "a", 1)))
        other = lot_of(sample_log(), (("ceiling", "a", 1),)) & lot_of(sample_log(), (("at", "a", ("x", "y")),))
        self.assertEqual(one, other)
        for call in [lambda lot: best(lot).flow(), lambda lot: best(lot).moment, lambda lot: with_total(lot, 1),
                     lambda lot: every(lot, TESTS).stretches(), lambda lot: lot.ties(), lambda lot: list(lot.walk())]:
            self.assertEqual(call(one), call(other))

    def test_arguments_stay_as_they_were(self):
        weights = {"x": 1, "y": -2}
        log, condition = sample_log(), (("floor", "a", 1),)
        lot = lot_of(log, condition)
        total(log, (1, 0), weights=weights)
        best(lot, weights=weights, lowest=True)
        every(lot, TESTS)
        check_tests(log, TESTS)
        opposite(TESTS[0], log)
        self.assertEqual((list(weights.items()), condition), ([("x", 1), ("y", -2)], (("floor", "a", 1),)))
        self.assertEqual((log, TESTS), (sample_log(), (("at", "a", ("x",)),)))


class PaperTest(unittest.TestCase):

    def test_a_best_keeps_what_it_was_given(self):
        inner, weights = [0], {"x": 1}
        flow, moment, lowest = [(inner, 1, [inner]), inner], [1, inner], (inner,)
        found = Best(whole_lot(sample_log()), moment, flow, weights=weights, lowest=lowest)
        inner.append(5)
        weights["y"] = 7
        flow.clear()
        moment.clear()
        self.assertEqual(found.flow(), [([0], 1, [[0]]), [0]])
        self.assertEqual((found.moment, found.weights, found.lowest), ([1, [0]], {"x": 1}, ([0],)))
        found.flow()[0][2].append(9)
        found.flow()[1].append(9)
        found.flow().clear()
        self.assertEqual(found.flow(), [([0], 1, [[0]]), [0]])

    def test_the_weights_of_a_best_are_kept_as_they_were(self):
        weights = {"x": 3}
        found = best(whole_lot(sample_log()), weights=weights)
        weights["x"] = -3
        self.assertEqual((found.holds(), found.reached(), found.weights), (True, 3, {"x": 3}))

    def test_a_sure_and_an_avoid_keep_what_they_were_given(self):
        for paper, told in [(Sure, "stretches"), (Avoid, "course")]:
            inner = [0]
            listed, tests = [(inner, 1), inner, ((inner,),)], (inner, ("at", inner))
            found = paper(whole_lot(sample_log()), tests, listed)
            inner.append(5)
            listed.clear()
            expected = [([0], 1), [0], (([0],),)]
            self.assertEqual((getattr(found, told)(), found.tests), (expected, ([0], ("at", [0]))))
            getattr(found, told)()[1].append(9)
            getattr(found, told)()[2][0][0].append(9)
            getattr(found, told)().append(9)
            self.assertEqual(getattr(found, told)(), expected)

    def test_other_values_are_kept_as_they_are(self):
        lot = whole_lot(sample_log())
        for value in ODD_VALUES:
            expected = list(value) if value.__class__ is tuple else value
            found = [Best(lot, value, value, lowest=value), Sure(lot, value, value), Avoid(lot, value, value)]
            for told in [found[0].flow(), found[1].stretches(), found[2].course()]:
                self.assertEqual(told, expected)
                self.assertIs(told.__class__, expected.__class__)
            for kept in [found[0].moment, found[0].lowest, found[1].tests, found[2].tests]:
                self.assertEqual(kept, value)
                self.assertIs(kept.__class__, value.__class__)
            for paper in found:
                self.assertIs(paper.lot, lot)

    def test_tuples_in_the_place_of_lists(self):
        lot = whole_lot(sample_log())
        for paper, told in [(best(lot), Best.flow), (every(lot, TESTS), Sure.stretches)]:
            listed = tuple(told(paper))
            again = Best(lot, paper.moment, listed) if told is Best.flow else Sure(lot, TESTS, listed)
            self.assertEqual((again.holds(), told(again)), (True, list(listed)))


if __name__ == "__main__":
    unittest.main()
