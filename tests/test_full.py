"""Full logs, full rows and full tracers: the errors at and behind the bounds, and what stays."""

import unittest

from tests.helper import check_error
from tiedmoments.errors import DuplicateMessage, DuplicateName, Full, InvalidName, InvalidStep, InvalidText, TooMany
from tiedmoments.errors import UnknownProcess, Unsent
from tiedmoments.logs import Log
from tiedmoments.tracers import Tracer

STEP = ("x", 1, None)
SIX = "abcdef"
TWELVE = "abcdefghijkl"


def check_stays(case, error, attributes, tracer, *commands):
    """The call raises the error and changes nothing."""
    before = (tracer.twin(), tracer.history(), tracer.limit, tracer.kept(), tracer.present)
    check_error(case, error, attributes, tracer.apply, *commands)
    case.assertEqual((tracer, tracer.history(), tracer.limit, tracer.kept(), tracer.present), before)
    case.assertIs(tracer.busy, False)


class FullLogTest(unittest.TestCase):

    def test_six_processes(self):
        tracer = Tracer()
        tracer.apply(*[("process", name) for name in SIX])
        self.assertEqual((tracer.present.processes(), tracer.history()), (list(SIX), (1, 0)))
        many = {"subject": "processes", "most": 6}
        check_stays(self, TooMany, many, tracer, ("process", "g"))
        check_stays(self, InvalidName, {"value": "G"}, tracer, ("process", "G"))
        check_stays(self, DuplicateName, {"name": "f"}, tracer, ("process", "f"))
        check_stays(self, TooMany, many, tracer, ("step", "a", STEP), ("process", "g"))
        check_stays(self, TooMany, many, tracer, ("process", "g"), ("step", "q", STEP))
        tracer.undo()
        tracer.apply(*[("process", name) for name in SIX[:5]])
        check_stays(self, TooMany, many, tracer, ("process", "g"), ("process", "h"))
        tracer.apply(("process", "h"), ("step", "h", STEP))
        self.assertEqual(tracer.present.processes(), [*SIX[:5], "h"])

    def test_twenty_steps(self):
        tracer = Tracer(Log(("a", [STEP] * 19), ("b", [("y", 0, ("send", "m"))])))
        many = {"subject": "steps", "most": 20}
        check_stays(self, TooMany, many, tracer, ("step", "a", STEP), ("step", "a", STEP))
        self.assertEqual(tracer.present.lengths(), (19, 1))
        tracer.apply(("step", "a", ("z", 0, ("receive", "m"))))
        self.assertEqual(tracer.present.lengths(), (20, 1))
        for step in [STEP, ("x", 0, ("send", "k")), ("x", 0, ("send", "m")), ("x", 0, ("receive", "m")),
                     ("x", 0, ("receive", "q"))]:
            check_stays(self, TooMany, many, tracer, ("step", "a", step))
            check_stays(self, TooMany, many, tracer, ("step", "b", STEP), ("step", "a", step))
        check_stays(self, InvalidStep, {"process": "a", "index": 20}, tracer, ("step", "a", None))
        check_stays(self, UnknownProcess, {"name": "c"}, tracer, ("step", "c", None))
        check_stays(self, DuplicateMessage, {"message": "m"}, tracer, ("step", "b", ("x", 0, ("receive", "m"))))
        check_stays(self, Unsent, {"message": "q"}, tracer, ("step", "b", ("x", 0, ("receive", "q"))))
        tracer.apply(("step", "b", STEP))
        self.assertEqual(tracer.present.lengths(), (20, 2))

    def test_a_full_log(self):
        tracer = Tracer(Log(*[(name, [STEP] * 20) for name in SIX]))
        for name in SIX:
            check_stays(self, TooMany, {"subject": "steps", "most": 20}, tracer, ("step", name, STEP))
        check_stays(self, TooMany, {"subject": "processes", "most": 6}, tracer, ("process", "g"), ("step", "a", STEP))
        tracer.apply(("watch", "w", "a from 20 & f upto 0"))
        self.assertEqual((tracer.lot_for("w").least, repr(tracer)), ((20, 0, 0, 0, 0, 0), "Tracer(1 watches, 120 steps)"))


class FullTracerTest(unittest.TestCase):

    def full(self, limit):
        tracer = Tracer(Log.read("a: x\n"), limit=limit)
        tracer.apply(*[("watch", name, "a in x") for name in TWELVE[:limit]])
        tracer.lot_for("a")
        return tracer

    def test_calls_of_one_and_of_two_commands(self):
        for limit in (1, 2, 11, 12):
            tracer = self.full(limit)
            for text in ["", "a in x", "a in", "q from 0", None]:
                check_stays(self, Full, {"limit": limit}, tracer, ("watch", "z", text))
            check_stays(self, Full, {"limit": limit}, tracer, ("change", "a", ""), ("watch", "z", ""))
            check_stays(self, Full, {"limit": limit}, tracer, ("rename", "a", "y"), ("watch", "a", ""))
            check_stays(self, Full, {"limit": limit}, tracer, ("drop", "a"), ("watch", "y", ""), ("watch", "z", ""))
            check_stays(self, InvalidName, {"value": 5}, tracer, ("watch", 5, ""))
            check_stays(self, DuplicateName, {"name": "a"}, tracer, ("watch", "a", "a in"))
            check_stays(self, InvalidText, {"at": 0}, tracer, ("change", "a", "a in"))
            self.assertEqual((len(tracer), tracer.kept()), (limit, ["a"]))
            tracer.apply(("drop", "a"), ("watch", "z", ""))
            self.assertEqual((len(tracer), "z" in tracer, tracer.kept()), (limit, True, []))

    def test_one_watch_below_the_limit(self):
        for limit in (2, 12):
            tracer = self.full(limit)
            tracer.apply(("drop", TWELVE[limit - 1]))
            check_stays(self, Full, {"limit": limit}, tracer, ("watch", "y", ""), ("watch", "z", ""))
            check_stays(self, InvalidText, {"at": 0}, tracer, ("watch", "y", "a in"), ("watch", "z", ""))
            tracer.apply(("watch", "y", ""))
            self.assertEqual(len(tracer), limit)

    def test_more_watches_than_the_limit(self):
        tracer = self.full(12)
        tracer.apply(*[("drop", name) for name in TWELVE[1:]])
        tracer.limit = 1
        tracer.undo()
        self.assertEqual((len(tracer), tracer.limit), (12, 1))
        check_stays(self, Full, {"limit": 1}, tracer, ("watch", "z", ""))
        check_stays(self, Full, {"limit": 1}, tracer, ("drop", "a"), ("drop", "b"), ("watch", "z", ""))
        tracer.apply(*[("drop", name) for name in TWELVE], ("watch", "z", ""))
        self.assertEqual(tracer.names(), ["z"])


if __name__ == "__main__":
    unittest.main()
