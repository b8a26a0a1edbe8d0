"""When the turns of a climb are right: single turns, changed climbs and turns drawn at random."""

import unittest

from tests.helper import ODD_VALUES, clause_holds_at, closed_condition, condition_holds_at, is_moment_of, is_parted_on
from tests.helper import moments_of, names_of, points_of, random_clause, seeded, small_rows
from tiedmoments.climbs import Climb, climb
from tiedmoments.logs import Log

STRANGE_TURNS = ODD_VALUES + [
    (0, "a"), (0, "a", 1, None), [0, "a", 1], (0, 0, 1), (0, ["a"], 1), (0, None, 1), (0, "nobody", 1), ("0", "a", 1),
    (0, "a", "1"), (None, "a", 1), (0, "a", None), (0, "a", (1,)), ((0,), "a", 1), ((0, "a", 1),), "a", (-2, "a", 1),
]


def is_turn(rows, condition, point, turn):
    """Whether a value is a turn with a known process, a place to which it may be put, and an index or -1."""
    if turn.__class__ is not tuple or [part.__class__ for part in turn] != [int, str, int]:
        return False
    at, process, place = turn
    if at not in range(-1, len(condition)) or process not in names_of(rows):
        return False
    if any(now > len(steps) for (name, steps), now in zip(rows, point)):
        return False
    own = names_of(rows).index(process)
    return point[own] < place <= len(rows[own][1]) + 1


def with_place(point, own, place):
    return (*point[:own], place, *point[own + 1:])


def is_sent_to(rows, point, own, place):
    """Whether the step ahead of a place sends a message that is received in a point."""
    deeds = [step[2] for (name, steps), now in zip(rows, point) for step in steps[:now]]
    steps = rows[own][1]
    deed = steps[place - 1][2] if place <= len(steps) else None
    return deed is not None and deed[0] == "send" and ("receive", deed[1]) in deeds


def is_right(rows, condition, point, turn):
    """Whether a turn is right, from the definition of a climb, sentence by sentence."""
    if not is_turn(rows, condition, point, turn):
        return False
    at, process, place = turn
    names = names_of(rows)
    own = names.index(process)
    beyond = len(rows[own][1]) + 1
    if at == -1:
        return is_sent_to(rows, point, own, place)
    clause = condition[at]
    match clause:
        case ("at", name, marks):
            between = [with_place(point, own, now) for now in range(point[own], place)]
            return name == process and not any([clause_holds_at(rows, clause, other) for other in between])
        case ("lead", _, _, other, _, _):
            return other == process and not clause_holds_at(rows, clause, with_place(point, own, place - 1))
        case ("pair", one, other, _):
            at_both = [names.index(one), names.index(other)]
            held = [moment for moment in moments_of(rows) if clause_holds_at(rows, clause, moment)]
            reached = [moment for moment in held if all(moment[k] >= point[k] for k in at_both)]
            return own in at_both and all(moment[own] >= place for moment in reached)
        case ("tie", (one, index), (other, second)):
            if other != process or point[names.index(one)] <= index:
                return False
            return place == (second + 1 if second < len(rows[own][1]) else beyond)
        case ("floor", name, least):
            return name == process and least >= place
        case ("ceiling", name, most):
            return name == process and point[own] > most and place == beyond


def last_of(rows, condition, point, turns):
    """The point to which right turns lead, or None."""
    for turn in turns:
        if not is_right(rows, condition, point, turn):
            return None
        point = with_place(point, names_of(rows).index(turn[1]), turn[2])
    return point


class TurnTest(unittest.TestCase):

    def check_turns(self, rows, condition, point, turns):
        """Checks holds, end, told and turns, and returns whether the climb holds."""
        found = Climb(Log(*rows), condition, point, turns)
        last = last_of(rows, condition, point, turns)
        moment = last is not None and last in points_of(rows) and is_moment_of(rows, last)
        beyond = last is not None and last not in points_of(rows)
        shown = (rows, condition, point, turns)
        expected = beyond or (moment and condition_holds_at(rows, condition, last))
        self.assertIs(found.holds(), expected, shown)
        self.assertEqual(found.end(), last if moment else None, shown)
        told = "climb to " + (" ".join([str(place) for place in last]) if moment else "nothing")
        self.assertEqual((found.told(), repr(found)), (told, "Paper(" + told + ")"))
        self.assertEqual(found.turns(), list(turns))
        return expected

    def all_turns(self, rows, condition):
        for at in range(-2, len(condition) + 1):
            for name, steps in rows:
                for place in range(-1, len(steps) + 3):
                    yield (at, name, place)

    def test_all_single_turns_by_one_clause_of_each_kind(self):
        rng = seeded(81)
        for kind in ["at", "lead", "pair", "tie", "floor", "ceiling"]:
            for _ in range(25):
                rows = small_rows(rng, 3, 4)
                if len(rows) > 1:
                    clause = random_clause(rng, names_of(rows), [kind])
                    self.check_all_single_turns(rng, rows, () if is_parted_on(rows, clause) else (clause,))

    def check_all_single_turns(self, rng, rows, condition):
        points = points_of(rows)
        for point in rng.sample(points, min(6, len(points))):
            for turn in self.all_turns(rows, condition):
                self.check_turns(rows, condition, point, [turn])

    def test_all_single_turns_by_several_clauses(self):
        rng = seeded(82)
        for _ in range(40):
            rows = small_rows(rng, 3, 5)
            self.check_all_single_turns(rng, rows, closed_condition(rng, rows))

    def test_right_turns_in_any_order(self):
        rng = seeded(83)
        held = 0
        for _ in range(150):
            rows = small_rows(rng, 3, 6)
            condition = closed_condition(rng, rows)
            point = start = rng.choice(points_of(rows))
            turns = []
            right = list(self.all_turns(rows, condition))
            while right and len(turns) < 12:
                right = [turn for turn in self.all_turns(rows, condition) if is_right(rows, condition, point, turn)]
                if right:
                    turns.append(rng.choice(right))
                    point = with_place(point, names_of(rows).index(turns[-1][1]), turns[-1][2])
                held += self.check_turns(rows, condition, start, turns)
        self.assertGreater(held, 100)

    def test_changed_climbs(self):
        rng = seeded(84)
        wrong = 0
        for _ in range(400):
            rows = small_rows(rng)
            condition = closed_condition(rng, rows)
            point = rng.choice(points_of(rows))
            turns = climb(Log(*rows), condition, point).turns()
            self.assertTrue(self.check_turns(rows, condition, point, turns))
            for changed in changes(rng, rows, condition, turns):
                wrong += not self.check_turns(rows, condition, point, changed)
        self.assertGreater(wrong, 1000)

    def test_turns_that_are_no_tuples_of_an_index_a_process_and_a_place(self):
        rows = [("a", [("x", 0, None)] * 3), ("b", [("y", 0, None)])]
        condition = (("floor", "a", 2), ("floor", "b", 1))
        self.assertTrue(self.check_turns(rows, condition, (0, 0), [(0, "a", 2), (1, "b", 1)]))
        for turn in STRANGE_TURNS + [(False, "a", 2), (0, "a", True), (True, "b", 1), (1, "b", True)]:
            self.assertFalse(self.check_turns(rows, condition, (0, 0), [turn, (0, "a", 2), (1, "b", 1)]), turn)
            self.assertFalse(self.check_turns(rows, condition, (0, 0), [(0, "a", 2), (1, "b", 1), turn]), turn)
            self.assertFalse(self.check_turns(rows, condition, (0, 0), [(0, "a", 2), turn, (1, "b", 1)]), turn)

    def test_nothing_stands_behind_a_turn_beyond_a_row(self):
        rows = [("a", [("x", 0, None)]), ("b", [("y", 0, None)])]
        condition = (("floor", "a", 5), ("floor", "b", 5), ("ceiling", "a", 0))
        self.assertTrue(self.check_turns(rows, condition, (0, 0), [(0, "a", 2)]))
        self.assertTrue(self.check_turns(rows, condition, (0, 0), [(1, "b", 1), (0, "a", 2)]))
        self.assertTrue(self.check_turns(rows, condition, (1, 0), [(2, "a", 2)]))
        self.assertFalse(self.check_turns(rows, condition, (0, 0), [(0, "a", 2), (1, "b", 1)]))
        self.assertFalse(self.check_turns(rows, condition, (0, 0), [(0, "a", 2), (1, "b", 2)]))
        self.assertFalse(self.check_turns(rows, condition, (0, 0), [(0, "a", 3)]))
        self.assertFalse(self.check_turns(rows, condition, (0, 0), [(0, "a", 2), (0, "a", 3)]))
        self.assertFalse(self.check_turns(rows, condition, (1, 0), [(2, "a", 3)]))


def changes(rng, rows, condition, turns):
    """Lists of turns like one that holds: one left out, doubled, at another place, changed, or put in at random."""
    drawn = [random_turn(rng, rows, condition) for _ in range(6)]
    for at, (clause, process, place) in enumerate(turns):
        ahead, behind = turns[:at], turns[at + 1:]
        yield ahead + behind
        yield ahead + [turns[at], turns[at]] + behind
        yield behind + [turns[at]] + ahead
        for other in [(clause, process, place - 1), (clause, process, place + 1), (clause + 1, process, place),
                      (clause - 1, process, place), (clause, process, 0), (clause, process, 21), rng.choice(drawn)]:
            yield ahead + [other] + behind
    for turn in drawn if rows else []:
        at = rng.randint(0, len(turns))
        yield turns[:at] + [turn] + turns[at:]
        yield [turn]
    yield turns[::-1]
    yield []
    yield tuple(turns)


def random_turn(rng, rows, condition):
    names = names_of(rows) or ["a"]
    return (rng.randint(-1, len(condition)), rng.choice(names), rng.randint(0, 5))


if __name__ == "__main__":
    unittest.main()
