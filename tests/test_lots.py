"""Lots against their moments: least, greatest, needs, above, below, blocks, places, courses, numbers, ties."""

import unittest

from tests.helper import ODD_VALUES, blocks_in, check_error, closed_condition, free_in, has_step, held_moments
from tests.helper import in_order, is_below, join, lots_of_all_kinds, meet, moments_of, names_of, need_in, points_of
from tests.helper import seeded, small_rows, steps_at, steps_of
from tiedmoments.conditions import is_clause
from tiedmoments.errors import EmptyLot, InvalidNumber, InvalidPoint, UnknownProcess, UnknownStep
from tiedmoments.logs import Log
from tiedmoments.lots import Lot, empty_lot, lot_of, whole_lot

WRONG_POINTS = ODD_VALUES + [(0,), (4, 0), (0, 3), (-1, 0), (True, 0), (0, False), [0, 0], (0, 0, 0), ("a", "b")]
WRONG_STEPS = ODD_VALUES + [("a",), ("a", 3), ("a", -1), ("b", 2), ("c", 0), ("a", True), ("b", False), ["a", 0],
                            ("a", 0, 0), (0, "a"), ("a", "0"), ("a", None), (["a"], 0), "a0"]


def two_rows():
    return [("a", [("x", 0, None), ("y", 0, ("send", "m")), ("x", 0, None)]),
            ("b", [("z", 0, None), ("z", 0, ("receive", "m"))])]


def ties_in(rows, held):
    """The ties of a lot, from their definition."""
    least, greatest = meet(*held), join(*held)
    names = names_of(rows)
    found = [("floor", name, place) for name, place in zip(names, least) if place > 0]
    found += [("ceiling", name, place) for (name, steps), place in zip(rows, greatest) if place < len(steps)]
    for step in free_in(rows, held):
        past = need_in(rows, moments_of(rows), step)
        for name, place in zip(names, need_in(rows, held, step)):
            last = (name, place - 1)
            if place > 0 and not has_step(rows, past, last) and not has_step(rows, least, last):
                found.append(("tie", step, last))
    return tuple(found)


class ExampleTest(unittest.TestCase):

    def test_the_example_of_the_document(self):
        log = Log.read("a: x y x\nb: u v u\n")
        lot = lot_of(log, (("lead", "a", "", "b", "", 0), ("at", "b", ("start", "u"))))
        self.assertEqual(list(lot.moments()), [(0, 0), (0, 1), (1, 1), (0, 3), (1, 3), (2, 3), (3, 3)])
        self.assertEqual(lot.ties(), (("tie", ("a", 0), ("b", 0)), ("tie", ("a", 1), ("b", 2)),
                                      ("tie", ("a", 2), ("b", 2)), ("tie", ("b", 1), ("b", 2))))
        self.assertEqual(lot.blocks(),
                         [(("b", 0),), (("a", 0),), (("b", 1), ("b", 2)), (("a", 1),), (("a", 2),)])

    def test_the_log_without_processes(self):
        lot = whole_lot(Log())
        self.assertEqual((lot.least, lot.greatest, list(lot.moments()), lot.many()), ((), (), [()], 1))
        self.assertEqual((lot.blocks(), lot.ties(), list(lot.walk()), repr(lot)), ([], (), [()], "Lot(0 blocks)"))
        self.assertIs(bool(lot), True)
        self.assertEqual((lot.above(()), lot.below(()), () in lot, (0,) in lot), ((), (), True, False))
        self.assertEqual(lot, lot_of(Log(), ()))
        self.assertNotEqual(lot, empty_lot(Log()))


class MomentsTest(unittest.TestCase):

    def check_lot(self, rows, lot, held):
        shown = (Log(*rows).text(), held)
        self.assertIs(lot.__class__, Lot)
        self.assertEqual(lot.log, Log(*rows))
        self.assertEqual(list(lot.moments()), held, shown)
        self.assertEqual(lot.least, meet(*held) if held else None, shown)
        self.assertEqual(lot.greatest, join(*held) if held else None, shown)
        self.assertIs(bool(lot), held != [])
        for moment in points_of(rows):
            self.assertIs(moment in lot, moment in held, shown)
        for step in steps_of(rows):
            self.assertEqual(lot.need(step), need_in(rows, held, step), shown)
            self.assertEqual(lot.need(step=step), need_in(rows, held, step))
        for own, name in enumerate(names_of(rows)):
            self.assertEqual(lot.places(name), sorted({moment[own] for moment in held}), shown)
            self.assertEqual(lot.places(process=name), lot.places(name))
        blocks = blocks_in(rows, held) if held else []
        self.assertEqual(lot.blocks(), blocks, shown)
        self.assertEqual(repr(lot), f"Lot({len(blocks)} blocks)" if held else "Lot(empty)")

    def test_conditions_of_all_kinds(self):
        rng = seeded(101)
        for _ in range(250):
            rows = small_rows(rng)
            condition = closed_condition(rng, rows, 4)
            for lot in [lot_of(Log(*rows), condition), lot_of(condition=condition, log=Log(*rows))]:
                self.check_lot(rows, lot, held_moments(rows, condition))

    def test_whole_and_empty_lots_meets_and_joins(self):
        rng = seeded(102)
        for _ in range(80):
            rows = small_rows(rng)
            for lot, held in lots_of_all_kinds(rng, rows):
                self.check_lot(rows, lot, held)
        for lot in [whole_lot(log=Log(*two_rows())), whole_lot(Log(*two_rows()))]:
            self.check_lot(two_rows(), lot, moments_of(two_rows()))
        for lot in [empty_lot(log=Log(*two_rows())), empty_lot(Log(*two_rows()))]:
            self.check_lot(two_rows(), lot, [])

    def test_moments_read_in_turns(self):
        lot = whole_lot(Log(*two_rows()))
        one, other = lot.moments(), lot.moments()
        found = [(next(one), next(other)) for _ in moments_of(two_rows())]
        self.assertEqual(found, [(moment, moment) for moment in moments_of(two_rows())])
        self.assertEqual((list(one), list(other)), ([], []))

    def test_moments_by_their_sums_where_blocks_are_great(self):
        log = Log.read("a: x x x\nb: y y\n")
        lot = lot_of(log, (("at", "a", ("start",)), ("ceiling", "b", 1)))
        self.assertEqual(list(lot.moments()), [(0, 0), (0, 1)])
        lot = lot_of(Log.read("a: x x y\nb: y y\n"), (("at", "a", ("start", "y")),))
        self.assertEqual(list(lot.moments()), [(0, 0), (0, 1), (0, 2), (3, 0), (3, 1), (3, 2)])

    def test_other_values_are_in_no_lot(self):
        for value in WRONG_POINTS + [(0, 2), (1, 2)]:
            self.assertIs(value in whole_lot(Log(*two_rows())), False)
            self.assertIs(value in empty_lot(Log(*two_rows())), False)
        self.assertIs((1, 0) in whole_lot(Log(*two_rows())), True)
        self.assertIs((True, 0) in whole_lot(Log(*two_rows())), False)


class PointTest(unittest.TestCase):

    def test_above_and_below_from_all_points(self):
        rng = seeded(103)
        for _ in range(80):
            rows = small_rows(rng)
            for lot, held in lots_of_all_kinds(rng, rows):
                for point in points_of(rows):
                    above = [moment for moment in held if is_below(point, moment)]
                    below = [moment for moment in held if is_below(moment, point)]
                    self.assertEqual(lot.above(point), meet(*above) if above else None)
                    self.assertEqual(lot.below(point), join(*below) if below else None)
                    self.assertEqual(lot.above(point=point), lot.above(point))
                    self.assertEqual(lot.below(point=point), lot.below(point))

    def test_wrong_points(self):
        log = Log(*two_rows())
        for lot in [whole_lot(log), empty_lot(log), lot_of(log, (("floor", "a", 1),))]:
            for value in WRONG_POINTS:
                check_error(self, InvalidPoint, {"value": value}, lot.above, value)
                check_error(self, InvalidPoint, {"value": value}, lot.below, point=value)

    def test_wrong_steps(self):
        log = Log(*two_rows())
        for lot in [whole_lot(log), empty_lot(log), lot_of(log, (("floor", "a", 1),))]:
            for value in WRONG_STEPS:
                check_error(self, UnknownStep, {"step": value}, lot.need, value)
                check_error(self, UnknownStep, {"step": value}, lot.need, step=value)

    def test_strange_processes(self):
        for lot in [whole_lot(Log(*two_rows())), empty_lot(Log(*two_rows()))]:
            for value in ODD_VALUES + ["c", "A", "start", ["a"], ("a",)]:
                check_error(self, UnknownProcess, {"name": value}, lot.places, value)
                check_error(self, UnknownProcess, {"name": value}, lot.places, process=value)


class ManyTest(unittest.TestCase):

    def test_bounds_at_and_next_to_the_number(self):
        rng = seeded(104)
        for _ in range(60):
            rows = small_rows(rng)
            for lot, held in lots_of_all_kinds(rng, rows):
                self.assertEqual(lot.many(), len(held))
                for most in {0, 1, len(held) - 1, len(held), len(held) + 1, 4999, 5000} - {-1}:
                    expected = len(held) if len(held) <= most else None
                    self.assertEqual(lot.many(most), expected)
                    self.assertEqual(lot.many(most=most), expected)

    def test_the_default_bound(self):
        lot = whole_lot(Log.read("a:" + " x" * 9 + "\nb:" + " x" * 9 + "\nc:" + " x" * 9 + "\n"))
        self.assertEqual((lot.many(), lot.many(1000), lot.many(999)), (1000, 1000, None))
        lot = whole_lot(Log.read("a:" + " x" * 6 + "\nb:" + " x" * 10 + "\nc:" + " x" * 12 + "\n"))
        self.assertEqual((lot.many(), lot.many(1001), lot.many(1000)), (None, 1001, None))

    def test_great_lots(self):
        lot = whole_lot(Log(*[(name, [("x", 0, None)] * 20) for name in "abcdef"]))
        self.assertEqual((lot.many(), lot.many(5000), lot.many(0)), (None, None, None))
        lot = whole_lot(Log(*[(name, [("x", 0, None)] * 16) for name in "abc"]))
        self.assertEqual((lot.many(4913), lot.many(4912), lot.many(5000)), (4913, None, 4913))

    def test_wrong_numbers(self):
        for lot in [whole_lot(Log(*two_rows())), empty_lot(Log())]:
            for value in ODD_VALUES + [-1, 5001, 10 ** 9 - 1, "5", True, False, (5,), [5]]:
                if value.__class__ is not int or not 0 <= value <= 5000:
                    check_error(self, InvalidNumber, {"value": value}, lot.many, value)
                    check_error(self, InvalidNumber, {"value": value}, lot.many, most=value)


class TieTest(unittest.TestCase):

    def test_ties_and_the_lot_of_the_ties(self):
        rng = seeded(105)
        for _ in range(120):
            rows = small_rows(rng)
            for lot, held in lots_of_all_kinds(rng, rows):
                if held:
                    self.assertEqual(lot.ties(), ties_in(rows, held), (Log(*rows).text(), held))
                    self.assertTrue(all(is_clause(clause) for clause in lot.ties()))
                    again = lot_of(lot.log, lot.ties())
                    self.assertEqual((list(again.moments()), again == lot), (held, True))
                    self.assertEqual(again.ties(), lot.ties())

    def test_ties_are_a_condition_of_all_kinds_in_order(self):
        log = Log.read("a: x y!m x x\nb: z z?m z z\n")
        lot = lot_of(log, (("lead", "b", "", "a", "", -1), ("floor", "b", 1), ("ceiling", "b", 3)))
        self.assertEqual(lot.ties(), (("floor", "a", 2), ("floor", "b", 1), ("ceiling", "b", 3),
                                      ("tie", ("b", 1), ("a", 2)), ("tie", ("b", 2), ("a", 3))))

    def test_the_empty_lot_has_none(self):
        for lot in [empty_lot(Log()), empty_lot(Log(*two_rows())), lot_of(Log(*two_rows()), (("floor", "a", 20),))]:
            check_error(self, EmptyLot, {}, lot.ties)


class WalkTest(unittest.TestCase):

    def expected_walk(self, rows, held):
        """Each time the first moment that has just one block more."""
        blocks = [list(block) for block in blocks_in(rows, held)]
        course = [meet(*held)]
        while course[-1] != join(*held):
            made = steps_at(rows, course[-1])
            behind = [moment for moment in held if is_below(course[-1], moment)]
            more = [[step for step in steps_at(rows, moment) if step not in made] for moment in behind]
            course.append(in_order([moment for moment, steps in zip(behind, more) if steps in blocks])[0])
        return course

    def test_walks(self):
        rng = seeded(106)
        for _ in range(100):
            rows = small_rows(rng)
            for lot, held in lots_of_all_kinds(rng, rows):
                if held:
                    self.assertEqual(list(lot.walk()), self.expected_walk(rows, held), (Log(*rows).text(), held))

    def test_walks_read_in_turns(self):
        lot = whole_lot(Log(*two_rows()))
        one, other = lot.walk(), lot.walk()
        expected = list(lot.walk())
        self.assertEqual([(next(one), next(other)) for _ in expected], [(moment, moment) for moment in expected])
        self.assertEqual((list(one), list(other)), ([], []))

    def test_the_error_comes_when_the_first_item_is_asked_for(self):
        for lot in [empty_lot(Log()), empty_lot(Log(*two_rows()))]:
            walk = lot.walk()
            check_error(self, EmptyLot, {}, next, walk)
            check_error(self, EmptyLot, {}, list, lot.walk())


if __name__ == "__main__":
    unittest.main()
