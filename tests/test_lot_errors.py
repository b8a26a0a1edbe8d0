"""The errors of climb and lot_of on small logs, in their order and with their attributes."""

import itertools
import unittest

from tests.helper import ODD_VALUES, RIGHT_CLAUSES, WRONG_CLAUSES, check_error, clause_holds_at, is_parted_on, join, meet
from tests.helper import moments_of, names_of, random_clause, random_condition, seeded, small_rows
from tiedmoments.climbs import climb
from tiedmoments.conditions import parting
from tiedmoments.errors import InvalidClause, InvalidPoint, Parted, UnknownProcess
from tiedmoments.logs import Log
from tiedmoments.lots import lot_of

CROSS = ("pair", "a", "b", (("x", "start"), ("start", "z")))
STRANGE = ("floor", "q", 1)


def two_rows():
    return [("a", [("x", 0, None), ("y", 0, ("send", "m"))]), ("b", [("z", 0, None), ("z", 0, ("receive", "m"))])]


class ErrorTest(unittest.TestCase):

    def check_both(self, error, attributes, log, condition):
        check_error(self, error, attributes, lot_of, log, condition)
        check_error(self, error, attributes, lot_of, condition=condition, log=log)
        for point in [(), ((0,) * len(log.processes()),), ("x",), (None,)]:
            check_error(self, error, attributes, climb, log, condition, *point)

    def check_parted(self, rows, condition, at):
        log = Log(*rows)
        held = [moment for moment in moments_of(rows) if clause_holds_at(rows, condition[at], moment)]
        for call in [lambda: lot_of(log, condition), lambda: climb(log, condition), lambda: climb(log, condition, None)]:
            with self.assertRaises(Parted) as caught:
                call()
            found = caught.exception
            self.assertEqual((found.code, found.at), ("Parted", at))
            self.assertTrue(found.one in held and found.other in held)
            self.assertFalse(meet(found.one, found.other) in held and join(found.one, found.other) in held)
            self.assertEqual((found.one, found.other), parting(log, condition[at]))

    def test_wrong_clauses(self):
        log = Log(*two_rows())
        for wrong in WRONG_CLAUSES + ODD_VALUES:
            self.check_both(InvalidClause, {"at": 0}, log, (wrong,))
            self.check_both(InvalidClause, {"at": 2}, log, (CROSS, STRANGE, wrong, wrong))
        for value in ODD_VALUES + [list(RIGHT_CLAUSES)]:
            if value.__class__ is not tuple:
                self.check_both(InvalidClause, {"at": -1}, log, value)

    def test_strange_names(self):
        log = Log(*two_rows())
        for condition in itertools.permutations([CROSS, STRANGE, ("tie", ("r", 0), ("s", 0))]):
            first = [clause for clause in condition if clause != CROSS][0]
            self.check_both(UnknownProcess, {"name": "q" if first == STRANGE else "r"}, log, condition)
        for clause, name in [(("lead", "a", "", "c", "", 0), "c"), (("lead", "d", "", "c", "", 0), "d"),
                             (("pair", "a", "c", (("x", "x"),)), "c"), (("tie", ("a", 0), ("c", 0)), "c")]:
            self.check_both(UnknownProcess, {"name": name}, log, (clause,))

    def test_parted_clauses_by_their_first_index(self):
        rng = seeded(121)
        found = 0
        for _ in range(400):
            rows = small_rows(rng)
            condition = random_condition(rng, names_of(rows), 3)
            if len(rows) > 1:
                condition += tuple(random_clause(rng, names_of(rows), ["pair"]) for _ in range(2))
            parted = [at for at, clause in enumerate(condition) if is_parted_on(rows, clause)]
            if parted:
                found += 1
                self.check_parted(rows, condition, parted[0])
            else:
                self.assertEqual(lot_of(Log(*rows), condition).log, Log(*rows))
        self.assertGreater(found, 20)

    def test_parted_clauses_come_ahead_of_wrong_points(self):
        log = Log(*two_rows())
        check_error(self, InvalidPoint, {"value": "x"}, climb, log, (("floor", "a", 20),), "x")
        for point in ["x", (9, 9), [0, 0]]:
            with self.assertRaises(Parted):
                climb(log, (CROSS,), point)

    def test_several_errors_at_once(self):
        log = Log(*two_rows())
        for condition in itertools.permutations([CROSS, STRANGE, "wrong", ("floor", "p", 0)]):
            self.check_both(InvalidClause, {"at": condition.index("wrong")}, log, condition)
        self.check_both(UnknownProcess, {"name": "q"}, log, (CROSS, STRANGE))
        self.check_both(UnknownProcess, {"name": "q"}, log, (STRANGE, CROSS))
        self.check_parted(two_rows(), (("floor", "a", 20), CROSS, CROSS), 1)

    def test_a_pair_clause_may_be_parted_by_one_log_only(self):
        self.check_parted(two_rows(), (CROSS,), 0)
        # Here the message lets no moment have both places of the second pair.
        log = Log.read("a: x!m\nb: z?m\n")
        self.assertEqual(list(lot_of(log, (CROSS,)).moments()), [(1, 0)])


if __name__ == "__main__":
    unittest.main()
