"""Tracers against a model of the document: commands, calls, history, limits, kept lots and twins."""

import unittest

from tests.helper import LETTERS, ODD_VALUES, check_error, held_moments, is_parted_on, seeded, steps_of
from tiedmoments.errors import DuplicateMessage, DuplicateName, Full, InvalidCommand, InvalidLimit, InvalidName
from tiedmoments.errors import InvalidStep, InvalidText, NothingLeft, Parted, TooMany, UnknownName, UnknownProcess
from tiedmoments.errors import Unsent
from tiedmoments.logs import Log
from tiedmoments.tracers import Tracer

# Texts with their conditions, or with the index of the first part that is no text of a clause.
TEXTS = {
    "": (), "a in x start": (("at", "a", ("x", "start")),), "b in y": (("at", "b", ("y",)),),
    "a.x <= b.* + 0": (("lead", "a", "x", "b", "", 0),), "a@0 -> b@1": (("tie", ("a", 0), ("b", 1)),),
    "b from 1": (("floor", "b", 1),), "a upto 1 & b in x y start": (("ceiling", "a", 1), ("at", "b", ("x", "y", "start"))),
    "a,b in x,start start,y": (("pair", "a", "b", (("x", "start"), ("start", "y"))),),
    "a in x & a,b in x,start start,x start,y": (("at", "a", ("x",)), ("pair", "a", "b", (
        ("x", "start"), ("start", "x"), ("start", "y")))),
    "c from 0": (("floor", "c", 0),), "a in x & q from 1": (("at", "a", ("x",)), ("floor", "q", 1)),
    "q@0 -> r@0": (("tie", ("q", 0), ("r", 0)),),
    "a in": 0, "a in x &": 1, " a in x": 0, "a from 1 & b upto 21": 1, "a in x  & b in y": 0, "& a in x": 0, "a": 0,
    "a in x & b from 01": 1, "a in x x": 0,
}
WRONG_COMMANDS = [
    (), None, "process", "", 0, True, [], ["process", "a"], ("process",), ("process", "a", "b"), ("Process", "a"), (" ", "a"),
    (("process",), "a"), (["process"], "a"), (None, "a"), (0, "a"), ("step", "a"), ("step", "a", None, None), ("undo",),
    ("redo",), ("watch", "u"), ("watch", "u", "", ""), ("change", "u"), ("drop",), ("drop", "u", "u"), ("rename", "u"),
    ("rename", "u", "v", "w"), ("log",), ("steps", "a", None), ("limit", 3), ({}, "a"),
]
STEPS = [("x", 1, None), ("y", -2, None), ("x", 0, ("send", "m")), ("y", 0, ("receive", "m")), ("x", 3, ("send", "k")),
         ("y", 0, ("receive", "k")), ("z", 99, ("receive", "l"))]
WRONG_STEPS = [None, ["x", 1, None], ("x", 100, None), ("x", True, None), ("x", 1), "x=1", ("start", 0, None)]
LIMITS = [1, 2, 3, 5, 12]
WRONG_LIMITS = ODD_VALUES + [13, -5, 100, "3", True, (3,)]


class Wrong(Exception):
    """What a tracer must raise: an error and its attributes."""


def is_name_of(value):
    return value.__class__ is str and 1 <= len(value) <= 6 and all(sign in LETTERS for sign in value)


def names_of_clause(clause):
    """The processes of a clause, from left to right."""
    match clause:
        case ("lead", one, _, other, _, _) | ("pair", one, other, _) | ("tie", (one, _), (other, _)):
            return [one, other]
        case (_, one, _):
            return [one]


class Model:
    """A tracer by the sentences of the document, over rows and conditions."""

    def __init__(self, rows=(), limit=8):
        self.rows = [(name, list(steps)) for name, steps in rows]
        self.watches = {}
        self.limit = limit
        self.earlier = []
        self.later = []
        self.kept = {}
        self.computed = 0

    def state(self):
        return [(name, list(steps)) for name, steps in self.rows], dict(self.watches)

    def put(self, state):
        rows, watches = state
        self.kept = {name: True for name in self.kept
                     if rows == self.rows and name in watches and watches[name] == self.watches[name]}
        self.rows, self.watches = rows, watches

    def apply(self, commands):
        for at, command in enumerate(commands):
            if not self.is_command(command):
                raise Wrong(InvalidCommand, {"at": at})
        state = self.state()
        for command in commands:
            self.do(*state, *command)
        if commands:
            self.earlier.append(self.state())
            self.later = []
            self.put(state)

    def is_command(self, value):
        items = {"process": 2, "step": 3, "watch": 3, "change": 3, "drop": 2, "rename": 3}
        right = value.__class__ is tuple and value != () and value[0].__class__ is str and value[0] in items
        return right and len(value) == items[value[0]]

    def undo(self):
        self.turn(self.earlier, self.later)

    def redo(self):
        self.turn(self.later, self.earlier)

    def turn(self, source, target):
        if not source:
            raise Wrong(NothingLeft, {})
        target.append(self.state())
        self.put(source.pop())

    def set_limit(self, value):
        if value.__class__ is not int or not 1 <= value <= 12 or value < len(self.watches):
            raise Wrong(InvalidLimit, {"value": value})
        self.limit = value

    def do(self, rows, watches, word, *values):
        getattr(self, "do_" + word)(rows, watches, *values)

    def do_process(self, rows, watches, name):
        self.check_fresh(name, [known for known, steps in rows])
        if len(rows) == 6:
            raise Wrong(TooMany, {"subject": "processes", "most": 6})
        rows.append((name, []))

    def do_step(self, rows, watches, name, step):
        known = [other for other, steps in rows]
        if name not in known:
            raise Wrong(UnknownProcess, {"name": name})
        steps = rows[known.index(name)][1]
        # By their reprs, as True equals 1.
        if repr(step) not in map(repr, STEPS):
            raise Wrong(InvalidStep, {"process": name, "index": len(steps)})
        if len(steps) == 20:
            raise Wrong(TooMany, {"subject": "steps", "most": 20})
        deeds = [made[2] for other, row in rows for made in row]
        if step[2] is not None and step[2] in deeds:
            raise Wrong(DuplicateMessage, {"message": step[2][1]})
        if step[2] is not None and step[2][0] == "receive" and ("send", step[2][1]) not in deeds:
            raise Wrong(Unsent, {"message": step[2][1]})
        steps.append(step)

    def do_watch(self, rows, watches, name, text):
        self.check_fresh(name, watches)
        if len(watches) >= self.limit:
            raise Wrong(Full, {"limit": self.limit})
        watches[name] = self.condition(rows, text)

    def do_change(self, rows, watches, name, text):
        self.check_known(name, watches)
        watches[name] = self.condition(rows, text)

    def do_drop(self, rows, watches, name):
        self.check_known(name, watches)
        del watches[name]

    def do_rename(self, rows, watches, name, fresh):
        self.check_known(name, watches)
        self.check_fresh(fresh, watches)
        watches[fresh] = watches.pop(name)

    def check_known(self, name, watches):
        if name not in list(watches):
            raise Wrong(UnknownName, {"name": name})

    def check_fresh(self, name, known):
        if not is_name_of(name):
            raise Wrong(InvalidName, {"value": name})
        if name in known:
            raise Wrong(DuplicateName, {"name": name})

    def condition(self, rows, text):
        found = TEXTS[text] if text.__class__ is str and text in TEXTS else 0
        if found.__class__ is int:
            raise Wrong(InvalidText, {"at": found})
        for clause in found:
            for name in names_of_clause(clause):
                if name not in [known for known, steps in rows]:
                    raise Wrong(UnknownProcess, {"name": name})
        return found


def random_name(rng):
    return rng.choice(ODD_VALUES) if rng.random() < 0.08 else rng.choice(["a", "b", "c", "a", "b"])


def random_watch(rng):
    return rng.choice(ODD_VALUES) if rng.random() < 0.08 else rng.choice(["u", "v", "w", "start", "a"])


def random_text(rng):
    return rng.choice(ODD_VALUES) if rng.random() < 0.05 else rng.choice(list(TEXTS))


def random_step(rng):
    return rng.choice(WRONG_STEPS + ODD_VALUES) if rng.random() < 0.1 else rng.choice(STEPS)


def random_command(rng, wrong=0.04):
    if rng.random() < wrong:
        return rng.choice(WRONG_COMMANDS)
    word = rng.choice(["process", "step", "step", "step", "watch", "watch", "watch", "change", "drop", "rename"])
    if word == "process":
        return (word, random_name(rng))
    if word == "step":
        return (word, random_name(rng), random_step(rng))
    if word == "drop":
        return (word, random_watch(rng))
    if word == "rename":
        return (word, random_watch(rng), random_watch(rng))
    return (word, random_watch(rng), random_text(rng))


class TracerCase(unittest.TestCase):
    """What all tests of tracers share."""

    def check_state(self, tracer, model):
        self.assertEqual(tracer.present.rows(), model.rows)
        self.assertEqual(tracer.names(), sorted(model.watches))
        self.assertEqual(list(tracer.watches()), sorted(model.watches.items()))
        for name, condition in model.watches.items():
            self.assertEqual((tracer.condition_of(name), tracer.condition_of(name=name)), (condition, condition))
            self.assertIs(name in tracer, True)
        for value in ODD_VALUES + ["q", "u", "ab"]:
            if value.__class__ is not str or value not in model.watches:
                self.assertIs(value in tracer, False)
                check_error(self, UnknownName, {"name": value}, tracer.condition_of, value)
        self.assertEqual(tracer.history(), (len(model.earlier), len(model.later)))
        self.assertEqual((tracer.limit, len(tracer), bool(tracer)), (model.limit, len(model.watches), True))
        self.assertEqual((tracer.busy, tracer.computed, tracer.kept()), (False, model.computed, sorted(model.kept)))
        many = len(steps_of(model.rows))
        self.assertEqual(repr(tracer), f"Tracer({len(model.watches)} watches, {many} steps)")

    def check_same(self, expected, call, *values):
        """The call raises what the model does, or nothing, as the model."""
        try:
            expected(*values)
        except Wrong as wrong:
            error, attributes = wrong.args
            check_error(self, error, attributes, call, *values)
            return False
        self.assertIsNone(call(*values))
        return True

    def check_call(self, tracer, model, commands):
        done = self.check_same(lambda *values: model.apply(values), tracer.apply, *commands)
        self.check_state(tracer, model)
        return done

    def started(self, rng, limit):
        """A tracer and its model with two processes, so that many commands are right."""
        tracer, model = Tracer(limit=limit), Model(limit=limit)
        if rng.random() < 0.8:
            self.check_call(tracer, model, [("process", "a"), ("process", "b")])
        return tracer, model


class CommandTest(TracerCase):

    def test_up_to_nine_commands_with_several_limits(self):
        rng = seeded(211)
        counts = {True: 0, False: 0}
        for at in range(450):
            tracer, model = self.started(rng, (2, 3, 12)[at % 3])
            for _ in range(rng.randint(1, 9)):
                counts[self.check_call(tracer, model, [random_command(rng)])] += 1
        self.assertTrue(min(counts.values()) > 300, counts)

    def test_all_pairs_of_an_error_and_a_value(self):
        tracer = Tracer(Log.read("a: x!m\nb:\n"), limit=2)
        model = Model(tracer.present.rows(), 2)
        self.check_call(tracer, model, [("watch", "u", "a in x start"), ("watch", "v", "")])
        names, steps = ODD_VALUES + ["a", "b", "c", "u", "v", "w"], STEPS + WRONG_STEPS
        for one in names:
            for command in [("process", one), ("drop", one)] + [("step", one, step) for step in steps]:
                self.check_twin(tracer, model, command)
            for other in ["u", "v", "w", "", None, ["w"], "toolong"]:
                self.check_twin(tracer, model, ("rename", one, other))
            for text in [*TEXTS, None, 5, ["a in x"]]:
                for word in ("watch", "change"):
                    self.check_twin(tracer, model, (word, one, text))

    def check_twin(self, tracer, model, command):
        """One command in the present state, which stays."""
        other, same = tracer.twin(), Model(limit=model.limit)
        same.rows, same.watches = model.state()
        same.earlier = list(model.earlier)
        if self.check_same(lambda *values: same.apply(values), other.apply, command):
            self.check_state(other, same)
        else:
            self.assertEqual(other, tracer)

    def test_wrong_commands_come_ahead_of_everything_else(self):
        for wrong in WRONG_COMMANDS + ODD_VALUES:
            tracer = Tracer()
            check_error(self, InvalidCommand, {"at": 0}, tracer.apply, wrong)
            check_error(self, InvalidCommand, {"at": 1}, tracer.apply, ("process", None), wrong)
            check_error(self, InvalidCommand, {"at": 2}, tracer.apply, ("process", "a"), ("drop", "q"), wrong, wrong)
            self.assertEqual((tracer.history(), tracer.present), ((0, 0), Log()))


class CallTest(TracerCase):

    def test_calls_with_none_to_three_commands(self):
        rng = seeded(212)
        counts = {True: 0, False: 0}
        for at in range(300):
            tracer, model = self.started(rng, (1, 2, 3, 12)[at % 4])
            for _ in range(rng.randint(1, 6)):
                commands = [random_command(rng) for _ in range(rng.randint(0, 3))]
                counts[self.check_call(tracer, model, commands)] += 1
        self.assertTrue(min(counts.values()) > 200, counts)

    def test_commands_that_depend_on_each_other(self):
        for commands in [
                [("process", "a"), ("step", "a", STEPS[2]), ("step", "a", STEPS[3])],
                [("process", "a"), ("step", "a", STEPS[3]), ("step", "a", STEPS[2])],
                [("process", "a"), ("process", "a")], [("watch", "u", "a in x start"), ("process", "a")],
                [("process", "a"), ("watch", "u", "a in x start"), ("change", "u", "")],
                [("watch", "u", ""), ("drop", "u"), ("drop", "u")], [("watch", "u", ""), ("rename", "u", "v"), ("drop", "u")],
                [("watch", "u", ""), ("rename", "u", "u")], [("watch", "u", ""), ("watch", "v", ""), ("watch", "w", "")],
                [("watch", "u", ""), ("drop", "u"), ("watch", "v", ""), ("watch", "w", "")]]:
            for limit in (1, 2, 3):
                self.check_call(Tracer(limit=limit), Model(limit=limit), commands)

    def test_a_call_without_commands_is_no_step(self):
        tracer, model = Tracer(), Model()
        self.check_call(tracer, model, [("process", "a")])
        for call in (tracer.undo, model.undo):
            call()
        self.check_call(tracer, model, [])
        self.assertEqual(tracer.history(), (0, 1))
        tracer.redo()
        self.assertEqual(tracer.present.processes(), ["a"])


class HistoryTest(TracerCase):

    def test_up_to_twelve_calls(self):
        rng = seeded(213)
        done = {"apply": 0, "undo": 0, "redo": 0, "limit": 0}
        for at in range(400):
            tracer, model = self.started(rng, LIMITS[at % 5])
            for _ in range(rng.randint(1, 12)):
                word = rng.choice(["apply", "apply", "undo", "redo", "limit"])
                done[word] += self.check_word(rng, word, tracer, model)
                self.check_state(tracer, model)
        self.assertTrue(min(done.values()) > 100, done)

    def check_word(self, rng, word, tracer, model):
        if word == "apply":
            return self.check_call(tracer, model, [random_command(rng, 0) for _ in range(rng.choice([1, 1, 2]))])
        if word == "limit":
            value = rng.choice(rng.choice([LIMITS, WRONG_LIMITS]))
            if rng.random() < 0.5:
                return self.check_same(model.set_limit, tracer.set_limit, value)
            return self.check_same(model.set_limit, lambda given: setattr(tracer, "limit", given), value)
        return self.check_same(getattr(model, word), getattr(tracer, word))

    def test_nothing_left(self):
        tracer = Tracer()
        check_error(self, NothingLeft, {}, tracer.undo)
        check_error(self, NothingLeft, {}, tracer.redo)
        tracer.apply(("process", "a"))
        check_error(self, NothingLeft, {}, tracer.redo)
        tracer.undo()
        check_error(self, NothingLeft, {}, tracer.undo)

    def test_another_step_ends_what_can_be_redone(self):
        tracer = Tracer()
        tracer.apply(("process", "a"))
        tracer.apply(("process", "b"), ("step", "b", STEPS[0]))
        tracer.undo()
        self.assertEqual((tracer.present.processes(), tracer.history()), (["a"], (1, 1)))
        check_error(self, DuplicateName, {"name": "a"}, tracer.apply, ("process", "a"))
        self.assertEqual(tracer.history(), (1, 1))
        tracer.redo()
        self.assertEqual((tracer.present.processes(), tracer.history()), (["a", "b"], (2, 0)))
        tracer.undo()
        tracer.apply(("watch", "u", ""))
        self.assertEqual(tracer.history(), (2, 0))
        check_error(self, NothingLeft, {}, tracer.redo)

    def test_undo_and_redo_do_not_look_at_the_limit(self):
        tracer = Tracer(limit=3)
        tracer.apply(("watch", "u", ""), ("watch", "v", ""), ("watch", "w", ""))
        tracer.apply(("drop", "u"), ("drop", "v"))
        tracer.set_limit(1)
        tracer.undo()
        self.assertEqual((tracer.names(), tracer.limit), (["u", "v", "w"], 1))
        check_error(self, Full, {"limit": 1}, tracer.apply, ("watch", "x", ""))
        check_error(self, InvalidLimit, {"value": 2}, tracer.set_limit, 2)
        check_error(self, InvalidLimit, {"value": 1}, tracer.set_limit, 1)
        self.assertEqual(tracer.twin().limit, 1)
        tracer.set_limit(3)
        tracer.redo()
        self.assertEqual((tracer.names(), tracer.limit), (["w"], 3))

    def test_equal_tracers(self):
        rng = seeded(214)
        for _ in range(60):
            one, model = self.started(rng, 12)
            other, _ = self.started(rng, 12)
            for _ in range(4):
                command = random_command(rng, 0)
                self.check_call(one, model, [command])
                if rng.random() < 0.8:
                    self.check_same(lambda *values: None, lambda *values: self.try_apply(other, command))
            equal = one.present == other.present and dict(one.watches()) == dict(other.watches())
            self.assertIs(one == other, equal)
            self.assertIs(one != other, not equal)
        one, other = Tracer(limit=2), Tracer(limit=9)
        one.apply(("watch", "u", ""), ("watch", "v", ""))
        other.apply(("watch", "v", ""))
        self.assertIs(one == other, False)
        other.apply(("watch", "u", ""))
        self.assertIs(one == other, True)
        other.apply(("process", "a"))
        self.assertIs(one == other, False)
        other.undo()
        self.assertIs(one == other, True)
        for value in ODD_VALUES + [Log(), "Tracer(2 watches, 0 steps)"]:
            self.assertIs(one == value, False)

    def try_apply(self, tracer, command):
        try:
            tracer.apply(command)
        except (ValueError, LookupError):
            pass


class LimitTest(TracerCase):

    def test_the_constructor(self):
        log = Log.read("a: x\n")
        self.assertEqual((Tracer().limit, Tracer().present, Tracer.MOST, Tracer().MOST), (8, Log(), 12, 12))
        self.assertEqual((Tracer(None).present, Tracer(log).present, Tracer(log=log).present), (Log(), log, log))
        for limit in range(1, 13):
            self.assertEqual(Tracer(limit=limit).limit, limit)
            self.assertEqual((Tracer(log, limit=limit).limit, Tracer(log, limit=limit).present), (limit, log))
        for value in WRONG_LIMITS:
            if value != 1 or value.__class__ is bool:
                check_error(self, InvalidLimit, {"value": value}, Tracer, limit=value)
                check_error(self, InvalidLimit, {"value": value}, Tracer, log, limit=value)
        with self.assertRaises(TypeError):
            Tracer(log, 3)

    def test_limits_that_are_assigned(self):
        tracer = Tracer(limit=4)
        tracer.apply(("watch", "u", ""), ("watch", "v", ""), ("watch", "w", ""))
        for value in range(-1, 15):
            if 3 <= value <= 12:
                tracer.limit = value
                self.assertEqual(tracer.limit, value)
                self.assertIsNone(tracer.set_limit(value=value))
            else:
                check_error(self, InvalidLimit, {"value": value}, tracer.set_limit, value)
                check_error(self, InvalidLimit, {"value": value}, tracer.set_limit, value=value)
                check_error(self, InvalidLimit, {"value": value}, setattr, tracer, "limit", value)
        self.assertEqual((tracer.limit, tracer.history()), (12, (1, 0)))

    def test_full(self):
        for limit in (1, 2, 12):
            tracer = Tracer(limit=limit)
            for at in range(limit):
                tracer.apply(("watch", "abcdefghijklm"[at], ""))
            for text in ["", "wrong", "q in x", None]:
                check_error(self, Full, {"limit": limit}, tracer.apply, ("watch", "z", text))
            tracer.apply(("drop", "a"), ("watch", "z", ""))
            self.assertEqual(len(tracer), limit)


class KeptTest(TracerCase):

    def test_calls_and_questions_on_a_small_tracer(self):
        rng = seeded(215)
        done = {"apply": 0, "undo": 0, "redo": 0, "ask": 0}
        parted = 0
        for _ in range(250):
            tracer = Tracer(Log.read("a: x\nb: y\n"), limit=12)
            model = Model(tracer.present.rows(), 12)
            self.check_call(tracer, model, [("watch", "u", rng.choice(list(TEXTS)[:9]))])
            self.check_call(tracer, model, [("watch", "v", rng.choice(list(TEXTS)[:9]))])
            for _ in range(rng.randint(1, 12)):
                word = rng.choice(["apply", "apply", "undo", "redo", "ask", "ask", "ask"])
                if word == "ask":
                    found = self.check_ask(tracer, model, rng.choice(["u", "v", "w", "start", "a"]))
                    done["ask"] += found is True
                    parted += found == "parted"
                elif word == "apply":
                    done[word] += self.check_call(tracer, model, [random_command(rng, 0)])
                else:
                    done[word] += self.check_same(getattr(model, word), getattr(tracer, word))
                self.check_state(tracer, model)
        self.assertTrue(min(done.values()) > 50 and parted > 20, (done, parted))

    def check_ask(self, tracer, model, name):
        """Asks for a lot; returns whether there is one, or parted."""
        if name not in model.watches:
            check_error(self, UnknownName, {"name": name}, tracer.lot_for, name)
            return False
        condition = model.watches[name]
        wrong = [at for at, clause in enumerate(condition) if is_parted_on(model.rows, clause)]
        if wrong:
            with self.assertRaises(Parted) as caught:
                tracer.lot_for(name)
            self.assertEqual((caught.exception.code, caught.exception.at), ("Parted", wrong[0]))
            return "parted"
        if name not in model.kept:
            model.kept[name] = True
            model.computed += 1
        lot = tracer.lot_for(name)
        self.assertEqual((lot.log.rows(), list(lot.moments())), (model.rows, held_moments(model.rows, condition)))
        self.assertIs(tracer.lot_for(name=name), lot)
        return True

    def test_what_stays_kept(self):
        tracer = Tracer(Log.read("a: x\nb:\n"))
        tracer.apply(("watch", "u", "a in x"), ("watch", "v", "a from 1"), ("watch", "w", "a in x"))
        for name in "uvw":
            tracer.lot_for(name)
        self.assertEqual((tracer.kept(), tracer.computed), (["u", "v", "w"], 3))
        tracer.apply(("change", "v", "b upto 0"))
        self.assertEqual(tracer.kept(), ["u", "w"])
        tracer.apply(("rename", "u", "x"))
        self.assertEqual(tracer.kept(), ["w"])
        tracer.apply(("drop", "w"), ("rename", "x", "w"))
        self.assertEqual(tracer.kept(), ["w"])
        self.assertEqual((tracer.lot_for("w").many(), tracer.computed), (1, 3))
        tracer.apply(("step", "b", ("y", 0, None)))
        self.assertEqual(tracer.kept(), [])
        self.assertEqual((tracer.lot_for("w").many(), tracer.computed), (2, 4))
        tracer.undo()
        self.assertEqual(tracer.kept(), [])

    def test_a_log_that_is_equal_behind_the_call(self):
        tracer = Tracer(Log.read("a: x\n"))
        tracer.apply(("watch", "u", "a in x"))
        lot = tracer.lot_for("u")
        tracer.apply(("change", "u", "a from 0"), ("change", "u", "a in x"))
        tracer.apply(("drop", "u"), ("watch", "u", "a in x"))
        tracer.apply()
        tracer.undo()
        tracer.redo()
        tracer.set_limit(12)
        self.assertEqual((tracer.kept(), tracer.computed), (["u"], 1))
        self.assertIs(tracer.lot_for("u"), lot)
        check_error(self, UnknownName, {"name": "q"}, tracer.apply, ("process", "b"), ("drop", "u"), ("drop", "q"))
        self.assertEqual(tracer.kept(), ["u"])

    def test_errors_are_neither_kept_nor_counted(self):
        tracer = Tracer(Log.read("a: x\nb: y\n"))
        tracer.apply(("watch", "u", "a,b in x,start start,y"))
        for _ in range(3):
            with self.assertRaises(Parted):
                tracer.lot_for("u")
            for value in ODD_VALUES + ["v"]:
                check_error(self, UnknownName, {"name": value}, tracer.lot_for, value)
                check_error(self, UnknownName, {"name": value}, tracer.condition_of, name=value)
        self.assertEqual((tracer.kept(), tracer.computed), ([], 0))


class TwinTest(TracerCase):

    def test_calls_on_one_of_both(self):
        rng = seeded(216)
        for _ in range(120):
            tracer, model = self.started(rng, rng.choice([2, 12]))
            for _ in range(rng.randint(1, 5)):
                self.check_call(tracer, model, [random_command(rng, 0)])
            if rng.random() < 0.5 and model.earlier:
                self.check_same(model.undo, tracer.undo)
            for name in list(model.watches):
                if not any(is_parted_on(model.rows, clause) for clause in model.watches[name]):
                    tracer.lot_for(name)
                    model.kept[name] = True
                    model.computed += 1
            self.check_twins(rng, tracer, model)

    def check_twins(self, rng, tracer, model):
        twin = tracer.twin()
        self.assertIs(twin.__class__, Tracer)
        self.assertEqual(twin, tracer)
        self.check_state(twin, model)
        same = Model(limit=model.limit)
        same.rows, same.watches = model.state()
        same.earlier, same.later = list(model.earlier), list(model.later)
        same.kept, same.computed = dict(model.kept), model.computed
        for _ in range(6):
            one, other = rng.choice([(tracer, model), (twin, same)])
            word = rng.choice(["apply", "undo", "redo"])
            if word == "apply":
                self.check_call(one, other, [random_command(rng, 0)])
            else:
                self.check_same(getattr(other, word), getattr(one, word))
            self.check_state(tracer, model)
            self.check_state(twin, same)

    def test_lots_and_limits_of_twins(self):
        tracer = Tracer(Log.read("a: x\n"), limit=5)
        tracer.apply(("watch", "u", "a in x"), ("watch", "v", ""))
        lot = tracer.lot_for("u")
        twin = tracer.twin()
        self.assertIs(twin.lot_for("u"), lot)
        twin.lot_for("v")
        twin.limit = 3
        self.assertEqual((tracer.kept(), tracer.computed, tracer.limit), (["u"], 1, 5))
        self.assertEqual((twin.kept(), twin.computed, twin.limit), (["u", "v"], 2, 3))
        tracer.apply(("process", "b"))
        self.assertEqual((twin.kept(), twin.present.processes(), twin.history()), (["u", "v"], ["a"], (1, 0)))
        twin.undo()
        self.assertEqual((tracer.names(), tracer.history(), twin.names()), (["u", "v"], (2, 0), []))


class ListTest(TracerCase):

    def test_returned_lists_are_new_and_what_was_handed_in_stays(self):
        tracer = Tracer(Log.read("a: x\n"))
        command = ("watch", "u", "a in x")
        tracer.apply(command)
        tracer.lot_for("u")
        for call in (tracer.names, tracer.kept, lambda: list(tracer.watches())):
            call().clear()
            self.assertEqual(len(call()), 1)
        self.assertEqual(command, ("watch", "u", "a in x"))

    def test_watches_read_in_turns(self):
        tracer = Tracer()
        tracer.apply(("watch", "v", ""), ("watch", "u", ""), ("watch", "w", ""))
        one, other = tracer.watches(), tracer.watches()
        self.assertEqual([(next(one)[0], next(other)[0]) for _ in range(3)], [("u", "u"), ("v", "v"), ("w", "w")])

    def test_properties_and_methods_stand_in_the_class_itself(self):
        for name in """__init__ present limit set_limit apply undo redo history names condition_of lot_for kept computed busy
                watches __contains__ __eq__ __len__ __bool__ __repr__ twin""".split():
            self.assertIn(name, vars(Tracer))
        for name in ["present", "computed", "busy"]:
            with self.assertRaises(AttributeError):
                setattr(Tracer(), name, None)


if __name__ == "__main__":
    unittest.main()
