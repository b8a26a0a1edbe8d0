"""Desks: lines and their answers, against a model of the document."""

import unittest

from tests.helper import all_tests_hold, courses_in, held_moments, is_parted_on, join, meet, moments_of, seeded
from tests.test_lots import ties_in
from tests.test_totals import total_of
from tests.test_tracers import STEPS, TEXTS, Model, TracerCase, Wrong
from tiedmoments.conditions import condition_text
from tiedmoments.desk import Desk
from tiedmoments.errors import InvalidTests, Parted
from tiedmoments.logs import Log
from tiedmoments.tracers import Tracer
from tiedmoments.words import step_text

UNKNOWN = [
    "", " ", "  ", "\n", "process", "process a b", "process  a", " process a", "process a ", "process a\n", "Process a",
    "step a", "step a x y", "step", "watch", "change", "watch ", "watch  u", "watch u ", "watch u  a in x", "watch u a in\nx",
    "drop", "drop u v", "rename u", "rename", "rename u v w", "undo u", "redo u", "undo ", "log u", "log\n", "names u", "show",
    "show u v", "can", "can u v", "last", "last u v", "ties", "ties u v", "most", "most u v", "least", "least u v", "must",
    "must u v", "help", "limit 3", "twin", "a", "log log", "UNDO", "chart", "page", "process\na",
]
# Right tests, by their texts.
TESTS = {
    "a in x": (("at", "a", ("x",)),), "a in x start & b in y": (("at", "a", ("x", "start")), ("at", "b", ("y",))),
    "b in y x & a in x": (("at", "b", ("y", "x")), ("at", "a", ("x",))), "a in z": (("at", "a", ("z",)),),
    "a in start & b in start": (("at", "a", ("start",)), ("at", "b", ("start",))),
}
# Texts of conditions about a and b.
FITTING = [text for text in TEXTS if TEXTS[text].__class__ is tuple and not {"c", "q"} & set(text)]
QUESTIONS = ["show", "can", "last", "ties", "most", "least", "must"]


class DeskModel:
    """The answers of a desk, by the sentences of the document."""

    def __init__(self, model):
        self.model = model

    def answer(self, line):
        words = line.split(" ")
        if "\n" in line or "" in words:
            return "unknown"
        try:
            return self.right_answer(*words)
        except Wrong as wrong:
            return "error " + wrong.args[0].__name__

    def right_answer(self, word, *rest):
        if word in ("undo", "redo") and not rest:
            getattr(self.model, word)()
            return "done"
        if word == "step" and len(rest) == 2:
            found = [step for step in STEPS if step_text(step) == rest[1]]
            return self.done((word, rest[0], found[0] if found else None))
        if (word, len(rest)) in [("process", 1), ("drop", 1), ("rename", 2)]:
            return self.done((word, *rest))
        if word in ("watch", "change") and rest:
            return self.done((word, rest[0], " ".join(rest[1:])))
        if word == "log" and not rest:
            return Log(*self.model.rows).text()[:-1].replace("\n", " / ") or "empty"
        if word == "names" and not rest:
            return " ".join(sorted(self.model.watches)) or "none"
        if word in QUESTIONS and len(rest) == 1:
            self.model.check_known(rest[0], self.model.watches)
            return getattr(self, word)(self.model.watches[rest[0]], rest[0])
        return "unknown"

    def done(self, command):
        self.model.apply([command])
        return "done"

    def held(self, condition, name):
        """The moments of a lot that the tracer keeps."""
        if any(is_parted_on(self.model.rows, clause) for clause in condition):
            raise Wrong(Parted, {})
        if name not in self.model.kept:
            self.model.kept[name] = True
            self.model.computed += 1
        return held_moments(self.model.rows, condition)

    def show(self, condition, name):
        return [text for text in TEXTS if TEXTS[text] == condition][0] or "nothing"

    def can(self, condition, name):
        held = self.held(condition, name)
        return " ".join(map(str, meet(*held))) if held else "never"

    def last(self, condition, name):
        held = self.held(condition, name)
        return " ".join(map(str, join(*held))) if held else "never"

    def ties(self, condition, name):
        held = self.held(condition, name)
        return condition_text(ties_in(self.model.rows, held)) or "free" if held else "never"

    def most(self, condition, name):
        totals = [total_of(self.model.rows, moment, None) for moment in self.held(condition, name)]
        return str(max(totals)) if totals else "never"

    def least(self, condition, name):
        totals = [total_of(self.model.rows, moment, None) for moment in self.held(condition, name)]
        return str(min(totals)) if totals else "never"

    def must(self, condition, name):
        processes = [clause[1] for clause in condition if clause[0] == "at"]
        if not 1 <= len(condition) <= 6 or len(set(processes)) < len(condition):
            raise Wrong(InvalidTests, {})
        courses = courses_in(self.model.rows, moments_of(self.model.rows))
        rows = self.model.rows
        passed = [any(all_tests_hold(rows, condition, moment) for moment in course) for course in courses]
        return "yes" if all(passed) else "no"


def random_line(rng):
    if rng.random() < 0.05:
        return rng.choice(UNKNOWN)
    process = rng.choice(["a", "b"] * 5 + ["c", "A", "toolong"])
    watch = rng.choice(["u", "v"] * 5 + ["w", "start", "U"])
    word = rng.choice(["process", "step", "step", "step", "watch", "watch", "watch", "change", "change", "drop", "rename",
                       "undo", "redo", "log", "names"] + QUESTIONS * 2)
    if word == "process":
        return f"process {process}"
    if word == "step":
        wrong = rng.choice(["x=0", "x=100", "x!", "start", "x=1!m?k", "X", "x=+1", "done=05"])
        return f"step {process} {wrong if rng.random() < 0.1 else step_text(rng.choice(STEPS))}"
    if word in ("watch", "change"):
        others = [text for text in TEXTS if "  " not in text and not text.startswith(" ")]
        text = rng.choice(others if rng.random() < 0.3 else FITTING)
        return f"{word} {watch} {text}" if text else f"{word} {watch}"
    if word == "rename":
        return f"rename {watch} {rng.choice(['u', 'v', 'w', 'q9', 'toolong'])}"
    return word if word in ("undo", "redo", "log", "names") else f"{word} {watch}"


class DeskTest(TracerCase):

    def check_desk(self, desk, expected, line):
        """Checks the answer to a line, and what stays behind it."""
        before = desk.lines()
        answer = expected.answer(line)
        found = desk(line) if len(desk) % 2 else desk.say(line)
        self.assertEqual(found, answer, (desk.lines(), line))
        self.assertEqual(desk.lines(), before + [(line, answer)])
        self.assertEqual((len(desk), bool(desk)), (len(before) + 1, True))
        self.assertEqual(repr(desk), f"Desk({len(before) + 1} lines)")
        self.check_state(desk.tracer, expected.model)
        return answer

    def started_desk(self, rng):
        text = rng.choice(["", "a:\n", "a:\nb:\n", "a: x=1\nb: y=-2\n", "a: x!m y\nb: y=-2?m x=3\n"])
        limit = rng.choice([1, 2, 8])
        tracer = Tracer(Log.read(text), limit=limit)
        return tracer, DeskModel(Model(tracer.present.rows(), limit))

    def test_up_to_twelve_lines(self):
        rng = seeded(231)
        counts = {}
        for _ in range(500):
            tracer, expected = self.started_desk(rng)
            desk = Desk(tracer)
            self.assertIs(desk.tracer, tracer)
            fitting = rng.choice(FITTING)
            for line in [f"watch u {fitting}".strip()] + [random_line(rng) for _ in range(rng.randint(0, 11))]:
                answer = self.check_desk(desk, expected, line)
                kind = answer if answer.split(" ")[0] in ("error", "done", "unknown", "never", "free") else "told"
                counts[kind] = counts.get(kind, 0) + 1
        codes = """UnknownName InvalidText UnknownProcess Unsent InvalidName DuplicateName DuplicateMessage InvalidStep
            Full NothingLeft InvalidTests Parted""".split()
        for kind in ["done", "unknown", "never", "free", "told"] + ["error " + code for code in codes]:
            self.assertGreater(counts.get(kind, 0), 0, (kind, counts))

    def test_lines_that_desks_do_not_know(self):
        desk = Desk(Tracer(Log.read("a: x\n")))
        expected = DeskModel(Model(desk.tracer.present.rows()))
        self.check_desk(desk, expected, "watch u a in x start")
        for line in UNKNOWN:
            self.assertEqual(self.check_desk(desk, expected, line), "unknown")

    def test_the_example_of_the_document(self):
        desk = Desk(Tracer())
        lines = ["process a", "process b", "step a x=2!m", "step b y=-1?m", "watch w a in x & b in start", "can w", "ties w",
                 "most w", "log"]
        answers = ["done"] * 5 + ["1 0", "a from 1 & b upto 0", "2", "a: x=2!m / b: y=-1?m"]
        self.assertEqual([desk(line) for line in lines], answers)
        self.assertEqual(desk.lines(), list(zip(lines, answers)))

    def test_the_log_without_processes(self):
        desk = Desk(tracer=Tracer())
        for line, answer in [("log", "empty"), ("names", "none"), ("watch u", "done"), ("show u", "nothing"), ("can u", ""),
                             ("last u", ""), ("ties u", "free"), ("most u", "0"), ("least u", "0"), ("names", "u"),
                             ("must u", "error InvalidTests"), ("undo", "done"), ("undo", "error NothingLeft"),
                             ("redo", "done"), ("redo", "error NothingLeft"), ("can v", "error UnknownName")]:
            self.assertEqual(desk.say(line=line), answer)

    def test_questions_about_an_empty_lot(self):
        desk = Desk(Tracer(Log.read("a: x\n")))
        desk("watch u a from 2")
        for word in ["can", "last", "ties", "most", "least"]:
            self.assertEqual(desk(f"{word} u"), "never")
        self.assertEqual((desk.tracer.kept(), desk.tracer.computed), (["u"], 1))

    def test_which_questions_ask_the_lot_that_is_kept(self):
        for word in QUESTIONS:
            desk = Desk(Tracer(Log.read("a: x\n")))
            desk("watch u a in x")
            desk(f"{word} u")
            asked = word not in ("show", "must")
            self.assertEqual((desk.tracer.kept(), desk.tracer.computed), (["u"] if asked else [], 1 if asked else 0))
            desk(f"{word} u")
            self.assertEqual(desk.tracer.computed, 1 if asked else 0)

    def test_a_step_that_is_no_text_of_a_step(self):
        desk = Desk(Tracer(Log.read("a:" + " x" * 20 + "\n")))
        self.assertEqual([desk("step q X"), desk("step a X"), desk("step a x"), desk("step q x")],
                         ["error UnknownProcess", "error InvalidStep", "error TooMany", "error UnknownProcess"])

    def test_two_desks_over_one_tracer(self):
        rng = seeded(232)
        for _ in range(100):
            tracer, expected = self.started_desk(rng)
            one, other = Desk(tracer), Desk(tracer)
            for _ in range(12):
                self.check_desk(rng.choice([one, other]), expected, random_line(rng))
            self.assertEqual(len(one) + len(other), 12)
            self.assertIs(one.tracer, other.tracer)

    def test_whole_tests_asked_at_a_desk(self):
        rng = seeded(233)
        answers = {"yes": 0, "no": 0}
        for _ in range(200):
            tracer, expected = self.started_desk(rng)
            desk = Desk(tracer)
            for _ in range(rng.randint(0, 4)):
                self.check_desk(desk, expected, f"step {rng.choice('ab')} {step_text(rng.choice(STEPS))}")
            self.check_must(tracer, answers)
        self.assertTrue(min(answers.values()) > 50, answers)

    def check_must(self, tracer, answers):
        desk = Desk(tracer)
        rows = tracer.present.rows()
        for text, condition in TESTS.items():
            if all(name in tracer.present for kind, name, marks in condition):
                desk("drop u")
                desk("drop v")
                self.assertEqual(desk(f"watch u {text}"), "done")
                answer = desk("must u")
                courses = courses_in(rows, moments_of(rows))
                sure = all(any(all_tests_hold(rows, condition, moment) for moment in course) for course in courses)
                self.assertEqual(answer, "yes" if sure else "no")
                answers[answer] += 1

    def test_returned_lists_are_new(self):
        desk = Desk(Tracer())
        desk("log")
        desk.lines().clear()
        self.assertEqual((desk.lines(), repr(desk)), ([("log", "empty")], "Desk(1 lines)"))

    def test_methods_and_properties_stand_in_the_class_itself(self):
        for name in "__init__ tracer say __call__ lines __len__ __bool__ __repr__".split():
            self.assertIn(name, vars(Desk))
        desk = Desk(Tracer())
        self.assertEqual((len(desk), bool(desk), repr(desk), desk.lines()), (0, True, "Desk(0 lines)", []))
        with self.assertRaises(AttributeError):
            desk.tracer = Tracer()


if __name__ == "__main__":
    unittest.main()
