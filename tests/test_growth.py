"""Logs that grow by one step: each step that was not shut keeps its need."""

import unittest

from tests.helper import closed_condition, held_moments, names_of, random_condition, seeded, small_rows, steps_of
from tiedmoments.conditions import parting
from tiedmoments.logs import Log
from tiedmoments.lots import lot_of, whole_lot


def longer_rows(rng, rows):
    """Rows with one more step, with or without a message."""
    log = Log(*rows)
    fresh = "n" + "abcdefghijklmnopq"[len(log)]
    deeds = [None, None, ("send", fresh)] + [("receive", message) for message in log.under_way()] * 2
    at = rng.randrange(len(rows))
    step = (rng.choice(["x", "y", "z"]), rng.randint(-2, 2), rng.choice(deeds))
    return [(name, [*steps, step] if own == at else list(steps)) for own, (name, steps) in enumerate(rows)], at


class GrowthTest(unittest.TestCase):

    def check_growth(self, rows, longer, at, condition):
        old, new = lot_of(Log(*rows), condition), lot_of(Log(*longer), condition)
        shown = (Log(*longer).text(), condition)
        self.assertEqual(list(old.moments()), held_moments(rows, condition), shown)
        self.assertEqual(list(new.moments()), held_moments(longer, condition), shown)
        kept = [step for step in steps_of(rows) if old.need(step) is not None]
        for step in kept:
            self.assertEqual(new.need(step), old.need(step), shown)
        self.assertEqual([moment for moment in new.moments() if moment[at] < len(longer[at][1])], list(old.moments()))
        return len(kept)

    def test_conditions_of_all_kinds(self):
        rng = seeded(131)
        kept = 0
        for _ in range(500):
            rows = small_rows(rng)
            if rows:
                longer, at = longer_rows(rng, rows)
                condition = [clause for clause in closed_condition(rng, rows, 4)
                             if parting(Log(*longer), clause) is None]
                kept += self.check_growth(rows, longer, at, tuple(condition))
        self.assertGreater(kept, 500)

    def test_logs_that_grow_step_by_step(self):
        rng = seeded(132)
        for _ in range(40):
            rows = [("a", []), ("b", []), ("c", [])]
            condition = tuple(clause for clause in random_condition(rng, names_of(rows), 4) if clause[0] != "pair")
            for _ in range(7):
                longer, at = longer_rows(rng, rows)
                self.check_growth(rows, longer, at, condition)
                rows = longer

    def test_a_step_that_was_shut_may_get_a_need(self):
        condition = (("tie", ("a", 0), ("b", 0)),)
        old, new = lot_of(Log.read("a: x\nb:\n"), condition), lot_of(Log.read("a: x\nb: y\n"), condition)
        self.assertEqual((old.need(("a", 0)), new.need(("a", 0))), (None, (1, 1)))

    def test_whole_lots_keep_the_pasts(self):
        old, new = whole_lot(Log.read("a: x!m\nb: y?m\n")), whole_lot(Log.read("a: x!m z\nb: y?m\n"))
        self.assertEqual([old.need(("a", 0)), old.need(("b", 0))], [new.need(("a", 0)), new.need(("b", 0))])


if __name__ == "__main__":
    unittest.main()
