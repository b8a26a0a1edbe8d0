"""Papers: what all of them tell, keep and copy."""

import unittest

from tests.helper import ODD_VALUES
from tiedmoments.climbs import Climb, Paper, climb
from tiedmoments.logs import Log

METHODS = {Paper: ["told", "holds", "__bool__", "__repr__"],
           Climb: ["__init__", "turns", "end", "told", "holds", "__bool__"]}


def sample_log():
    return Log(("a", [("x", 0, None), ("y", 0, ("send", "m"))]), ("b", [("z", 0, ("receive", "m"))]))


CONDITION = (("at", "b", ("z",)),)
TURNS = [(0, "b", 1), (-1, "a", 2)]


class PaperTest(unittest.TestCase):

    def test_an_open_paper(self):
        paper = Paper()
        self.assertEqual((Paper.WORD, paper.WORD, paper.told(), repr(paper)), ("open", "open", "open", "Paper(open)"))
        self.assertIs(paper.holds(), False)
        self.assertIs(bool(paper), False)

    def test_the_methods_stand_in_the_classes_themselves(self):
        for paper, names in METHODS.items():
            for name in names:
                self.assertIn(name, vars(paper))

    def test_a_climb_is_a_paper(self):
        self.assertTrue(issubclass(Climb, Paper))
        self.assertEqual((Climb.WORD, climb(sample_log(), ()).WORD), ("climb", "climb"))

    def test_climbs_that_do_not_hold_are_true_too(self):
        for point, turns in [((0, 0), TURNS[:1]), (None, None), ((9, 9), [])]:
            found = Climb(sample_log(), CONDITION, point, turns)
            self.assertIs(found.holds(), False)
            self.assertIs(bool(found), True)
            self.assertEqual(repr(found), "Paper(climb to nothing)")


class KeptTest(unittest.TestCase):

    def test_by_position_and_by_name(self):
        log = sample_log()
        for found in [Climb(log, CONDITION, (0, 0), TURNS), Climb(turns=TURNS, point=(0, 0), condition=CONDITION, log=log)]:
            self.assertIs(found.log, log)
            self.assertEqual((found.condition, found.point, found.turns()), (CONDITION, (0, 0), TURNS))
            self.assertEqual((found.holds(), found.end(), found.told()), (True, (2, 1), "climb to 2 1"))

    def test_the_end_is_told_where_the_condition_does_not_hold(self):
        found = Climb(sample_log(), CONDITION, (1, 0), [])
        self.assertEqual((found.holds(), found.end(), found.told()), (False, (1, 0), "climb to 1 0"))

    def test_the_end_must_be_a_moment(self):
        found = Climb(sample_log(), CONDITION, (0, 0), TURNS[:1])
        self.assertEqual((found.holds(), found.end(), found.told()), (False, None, "climb to nothing"))

    def test_a_turn_beyond_the_row(self):
        found = Climb(sample_log(), (("floor", "b", 2),), (0, 0), [(0, "b", 2)])
        self.assertEqual((found.holds(), found.end(), found.told()), (True, None, "climb to nothing"))

    def test_a_tuple_is_kept_as_a_list(self):
        found = Climb(sample_log(), CONDITION, (0, 0), tuple(TURNS))
        self.assertEqual(found.turns(), TURNS)
        self.assertIs(found.turns().__class__, list)
        self.assertIs(found.holds(), True)
        self.assertEqual(Climb(sample_log(), (), (0, 0), ()).turns(), [])

    def test_what_was_handed_in_may_be_changed(self):
        turns = list(TURNS)
        found = Climb(sample_log(), CONDITION, (0, 0), turns)
        turns.pop()
        self.assertEqual((found.turns(), found.holds()), (TURNS, True))
        inner = [0]
        point, turns = [0, inner, (inner,)], [(0, inner, 1), [inner], inner, ((inner,), 2)]
        found = Climb(sample_log(), CONDITION, point, turns)
        inner.append(1)
        turns[1].append(2)
        point.append(3)
        self.assertEqual(found.point, [0, [0], ([0],)])
        self.assertEqual(found.turns(), [(0, [0], 1), [[0]], [0], (([0],), 2)])
        found = Climb(sample_log(), CONDITION, (inner,), (inner,))
        inner.append(2)
        self.assertEqual((found.point, found.turns()), (([0, 1],), [[0, 1]]))

    def test_returned_lists_are_new(self):
        found = Climb(sample_log(), CONDITION, (0, 0), TURNS)
        found.turns().clear()
        self.assertEqual((found.turns(), found.holds()), (TURNS, True))
        found = Climb(sample_log(), CONDITION, (0, 0), [[1], ([2],)])
        found.turns()[0].append(3)
        found.turns()[1][0].append(3)
        self.assertEqual(found.turns(), [[1], ([2],)])

    def test_a_point_must_be_a_point(self):
        for value in ODD_VALUES + [[0, 0], (0,), (0, 0, 0), (3, 0), (0, 2), (-1, 0), (False, 0), (0, True)]:
            found = Climb(sample_log(), (), value, [])
            self.assertEqual(found.point, value)
            self.assertIs(found.point.__class__, value.__class__)
            self.assertEqual((found.holds(), found.end(), found.told()), (False, None, "climb to nothing"))
            self.assertEqual(found.turns(), [])

    def test_other_values_in_the_place_of_the_turns(self):
        for value in ODD_VALUES:
            found = Climb(sample_log(), (), (0, 0), value)
            expected = list(value) if value.__class__ is tuple else value
            self.assertEqual(found.turns(), expected)
            self.assertIs(found.turns().__class__, expected.__class__)
            right = expected == []
            self.assertEqual((found.holds(), found.end()), (right, (0, 0) if right else None))
            self.assertEqual(found.told(), "climb to 0 0" if right else "climb to nothing")

    def test_climbs_of_equal_calls_are_equal(self):
        log = sample_log()
        one, other = climb(log, CONDITION), climb(sample_log(), CONDITION)
        self.assertEqual((one.turns(), one.end(), one.told()), (other.turns(), other.end(), other.told()))


if __name__ == "__main__":
    unittest.main()
