"""The whole program: its interface by position and by name, arguments that stay, sections, papers of all classes."""

import copy
import importlib
import inspect
import unittest

from tests.helper import ODD_VALUES, held_moments, marks_at, moments_of, seeded
from tiedmoments.climbs import Climb, Paper, climb
from tiedmoments.conditions import read_condition
from tiedmoments.courses import Avoid, Sure, every
from tiedmoments.logs import Log
from tiedmoments.lots import empty_lot, lot_of, whole_lot
from tiedmoments.steering import Steered, Stuck, steer
from tiedmoments.sums import Best, best

# The parameters of all functions and methods of the interface; those behind a star are passed by name only.
INTERFACE = {
    "words": {"is_name": "value", "is_word": "value", "is_step": "value", "is_number": "value least most",
              "step_text": "step", "read_step": "text"},
    "logs": {"Log": "*rows", "Log.processes": "", "Log.row": "process", "Log.mark": "process place", "Log.rows": "",
             "Log.lengths": "", "Log.under_way": "", "Log.with_step": "process step", "Log.with_process": "name",
             "Log.upto": "moment", "Log.walk": "", "Log.is_part_of": "other", "Log.text": "", "Log.read": "text"},
    "moments": {"is_point": "log value", "is_moment": "log value", "first_moment": "log", "last_moment": "log",
                "past": "log step", "is_ahead": "log one other", "meet_of": "log *points", "join_of": "log *points",
                "moments": "log"},
    "conditions": {"is_clause": "value", "check": "log condition", "holds": "log condition moment",
                   "parting": "log clause", "condition_text": "condition", "read_condition": "text"},
    "climbs": {"Paper": "", "Paper.told": "", "Paper.holds": "", "Climb": "log condition point turns",
               "Climb.turns": "", "Climb.end": "", "Climb.holds": "", "Climb.told": "", "climb": "log condition point=None"},
    "lots": {"Lot.need": "step", "Lot.above": "point", "Lot.below": "point", "Lot.moments": "", "Lot.many": "most=1000",
             "Lot.blocks": "", "Lot.places": "process", "Lot.ties": "", "Lot.walk": "", "Lot.beyond": "other",
             "Lot.is_within": "other", "lot_of": "log condition", "whole_lot": "log", "empty_lot": "log"},
    "sums": {"total": "log moment * weights=None", "Best": "lot moment flow * weights=None lowest=False", "Best.flow": "",
             "Best.reached": "", "Best.holds": "", "Best.told": "", "best": "lot * weights=None lowest=False last=False",
             "with_total": "lot number"},
    "courses": {"check_tests": "log tests", "stretches": "lot test", "opposite": "test log", "Sure": "lot tests stretches",
                "Avoid": "lot tests course", "Sure.stretches": "", "Avoid.course": "", "Sure.holds": "", "Avoid.holds": "",
                "every": "lot tests"},
    "steering": {"Steered": "lot tests ties", "Stuck": "lot tests stretches", "Steered.ties": "", "Stuck.stretches": "",
                 "Steered.holds": "", "Stuck.holds": "", "Steered.steered_lot": "", "steer": "lot tests"},
    "tracers": {"Tracer": "log=None * limit=8", "Tracer.set_limit": "value", "Tracer.apply": "*commands", "Tracer.undo": "",
                "Tracer.redo": "", "Tracer.history": "", "Tracer.names": "", "Tracer.condition_of": "name",
                "Tracer.lot_for": "name", "Tracer.kept": "", "Tracer.watches": "", "Tracer.twin": ""},
    "pages": {"write_page": "tracer", "read_page": "text", "chart": "log"},
    "desk": {"Desk": "tracer", "Desk.say": "line", "Desk.__call__": "line", "Desk.lines": ""},
}
PAPERS = [Climb, Best, Sure, Avoid, Steered, Stuck]


def parameters(called):
    """The parameters of a function, as they are listed above."""
    words = []
    for given in inspect.signature(called).parameters.values():
        if given.kind is given.KEYWORD_ONLY and "*" not in words:
            words.append("*")
        star = "*" if given.kind is given.VAR_POSITIONAL else ""
        default = "" if given.default is given.empty else f"={given.default!r}"
        words.append(f"{star}{given.name}{default}")
    return " ".join(word for word in words if word != "self")


class InterfaceTest(unittest.TestCase):

    def test_names_and_parameters(self):
        for module, listed in INTERFACE.items():
            found = importlib.import_module("tiedmoments." + module)
            for name, expected in listed.items():
                owner, _, method = name.partition(".")
                called = getattr(getattr(found, owner), method) if method else getattr(found, owner)
                if owner == "Paper" and not method:
                    self.assertEqual(repr(called()), "Paper(open)")
                else:
                    self.assertEqual(parameters(called), expected, name)
                self.assertEqual(getattr(found, owner).__module__, "tiedmoments." + module)
                if method:
                    self.assertIn(method, vars(getattr(found, owner)))

    def test_methods_by_position_and_by_name(self):
        log = Log.read("a: x=1!m y\nb: z?m\n")
        lot = whole_lot(log)
        tests = (("at", "a", ("x",)),)
        for called, values in [
                (lot.need, {"step": ("b", 0)}), (lot.above, {"point": (0, 1)}), (lot.below, {"point": (0, 1)}),
                (lot.many, {"most": 3}), (lot.places, {"process": "a"}), (lot.beyond, {"other": empty_lot(log)}),
                (lot.is_within, {"other": lot}), (log.row, {"process": "a"}), (log.mark, {"process": "a", "place": 1}),
                (every, {"lot": lot, "tests": tests}), (steer, {"lot": lot, "tests": tests}),
                (climb, {"log": log, "condition": tests, "point": (0, 0)}), (lot_of, {"log": log, "condition": tests})]:
            one, other, turned = called(*values.values()), called(**values), called(**dict(reversed(values.items())))
            shown = repr(one)
            self.assertEqual((repr(other), repr(turned)), (shown, shown))


class ArgumentTest(unittest.TestCase):

    def test_arguments_stay_as_they_were(self):
        steps = [("x", 1, ("send", "m")), ("y", 0, None)]
        rows, weights = [("a", steps), ("b", [("z", 0, ("receive", "m"))])], {"x": 3, "y": -1}
        condition, tests = (("at", "a", ("x", "y")),), (("at", "a", ("x",)), ("at", "b", ("start",)))
        before = copy.deepcopy((rows, weights, condition, tests))
        lot = lot_of(Log(*rows), condition)
        found = [best(lot, weights=weights), every(lot, tests), steer(lot, tests), climb(lot.log, condition)]
        turns, flow = found[3].turns(), found[0].flow()
        Climb(lot.log, condition, (0, 0), turns).turns().clear()
        Best(lot, (1, 0), flow, weights=weights).flow().clear()
        for paper in found:
            self.assertIs(paper.holds(), True)
            self.assertEqual(repr(paper), f"Paper({paper.told()})")
        self.assertEqual((rows, weights, condition, tests), before)
        self.assertEqual((turns, flow), (found[3].turns(), found[0].flow()))


class PaperTest(unittest.TestCase):

    def paper(self, kind, lot, one, other):
        if kind is Climb:
            return Climb(lot.log, (), one, other)
        return kind(lot, one, other)

    def test_any_values_in_all_places(self):
        rng = seeded(241)
        lot = whole_lot(Log.read("a: x=1!m y\nb: z?m\n"))
        for kind in PAPERS:
            for one in ODD_VALUES:
                for other in ODD_VALUES + [[value] for value in rng.sample(ODD_VALUES, 8)]:
                    found = self.paper(kind, lot, one, other)
                    self.assertIs(found.holds(), False)
                    told = {Climb: "climb to nothing"}.get(kind, kind.WORD)
                    self.assertEqual((found.told(), repr(found)), (told, f"Paper({told})"))
                    self.assertIs(bool(found), kind not in (Avoid, Stuck))
                    self.assertTrue(issubclass(kind, Paper))
        self.assertEqual([kind.WORD for kind in [Paper, *PAPERS]],
                         ["open", "climb", "best", "sure", "avoid", "steered", "stuck"])

    def test_what_was_handed_in_and_what_was_told_may_be_changed(self):
        lot = whole_lot(Log.read("a: x=1!m y\nb: z?m\n"))
        told = {Climb: "turns", Best: "flow", Sure: "stretches", Avoid: "course", Steered: "ties", Stuck: "stretches"}
        for kind in PAPERS:
            inner = [1, [2]]
            listed, value = [inner, (inner, 3)], [(inner,)]
            found = self.paper(kind, lot, value, listed)
            inner[1].append(5)
            inner.append(4)
            listed.append(None)
            expected = [[1, [2]], ([1, [2]], 3)]
            expected = tuple(expected) if kind is Steered else expected
            kept = {Climb: "point", Best: "moment"}.get(kind, "tests")
            self.assertEqual((getattr(found, told[kind])(), getattr(found, kept)), (expected, [([1, [2]],)]))
            getattr(found, told[kind])()[0].append(7)
            getattr(found, told[kind])()[1][0][1].append(7)
            self.assertEqual(getattr(found, told[kind])(), expected)

    def test_lists_in_the_place_of_tuples_do_not_hold(self):
        lot = whole_lot(Log.read("a: x y\nb: z\n"))
        tests = (("at", "a", ("x",)),)
        for right in [every(lot, tests), every(lot, (("at", "a", ("u",)),)), steer(lot, tests),
                      steer(lot, (("at", "a", ("start", "y")), ("at", "b", ("start",))))]:
            self.assertIs(right.holds(), True)
            wrong = right.__class__(lot, list(right.tests), [])
            self.assertIs(wrong.holds(), False)
            self.assertIs(right.__class__(lot, (list(right.tests[0]),), []).holds(), False)


class SectionTest(unittest.TestCase):
    """Two or three processes that enter and leave a section."""

    def rows(self, rng, processes, many):
        """Each process enters and leaves it once or twice; inside, messages may go to and fro."""
        names = "abc"[:processes]
        rows = [(name, []) for name in names]
        for turn in range(many):
            between = [(one, other) for one in names for other in names if one != other and rng.random() < 0.75]
            for name, steps in rows:
                steps.append(("in", 1, None))
                steps += [("in", 0, ("send", one + other + "mn"[turn])) for one, other in between if one == name]
                steps += [("in", 0, ("receive", one + other + "mn"[turn])) for one, other in between if other == name]
                steps.append(("out", -1, None))
        return rows

    def test_conditions_courses_and_steering(self):
        rng = seeded(242)
        words = {"sure": 0, "avoid": 0, "steered": 0, "stuck": 0}
        for at in range(45):
            processes, many = ((2, 1), (2, 2), (3, 1))[at % 3]
            rows = self.rows(rng, processes, many)
            names = [name for name, steps in rows]
            inside = tuple(("at", name, ("in",)) for name in names)
            outside = tuple(("at", name, ("start", "out")) for name in names)
            lot = whole_lot(Log(*rows))
            safe = self.can_avoid(rows)
            words[self.check_every(rows, lot, safe, inside)] += 1
            words[self.check_steer(rows, lot, safe, outside)] += 1
            self.check_condition(rows, names)
        self.assertTrue(min(words.values()) > 5, words)

    def all_inside(self, rows, moment):
        return set(marks_at(rows, moment).values()) == {"in"}

    def can_avoid(self, rows):
        """Whether step by step the last moment can be reached without a moment at which all are inside."""
        reached = set()
        for moment in moments_of(rows):
            ahead = [(*moment[:at], place - 1, *moment[at + 1:]) for at, place in enumerate(moment)]
            if not self.all_inside(rows, moment) and (sum(moment) == 0 or any(before in reached for before in ahead)):
                reached.add(moment)
        return tuple(len(steps) for name, steps in rows) in reached

    def check_every(self, rows, lot, safe, inside):
        found = every(lot, inside)
        self.assertEqual((bool(found), found.holds()), (not safe, True))
        if not found:
            self.assertFalse(any(self.all_inside(rows, moment) for moment in found.course()))
        return found.WORD

    def check_steer(self, rows, lot, safe, outside):
        """Ties after which the processes are never all in the section."""
        found = steer(lot, outside)
        self.assertEqual((bool(found), found.holds()), (safe, True))
        if found:
            left = found.steered_lot()
            self.assertFalse(any(self.all_inside(rows, moment) for moment in left.moments()))
            self.assertEqual(lot_of(lot.log, found.ties()), left)
            self.assertEqual(sorted(left.blocks()), sorted(lot.blocks()))
            self.assertIs(best(left).holds(), True)
        return found.WORD

    def check_condition(self, rows, names):
        """A process that enters again only when the other one has come so far."""
        one, other = names[:2]
        condition = read_condition(f"{one}.in <= {other}.out + 1 & {other}.in <= {one}.* + 0")
        lot = lot_of(Log(*rows), condition)
        self.assertEqual(list(lot.moments()), held_moments(rows, condition))
        self.assertEqual(lot_of(lot.log, lot.ties()) if lot else lot, lot)


if __name__ == "__main__":
    unittest.main()
