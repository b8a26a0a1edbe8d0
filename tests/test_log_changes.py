"""Logs made of logs: walk, with_step, with_process, upto, parts, `|` and `&`."""

import itertools
import unittest

from tests.helper import ODD_VALUES, check_error, message_error, random_rows, seeded
from tiedmoments.errors import (DuplicateMessage, DuplicateName, InvalidMoment, InvalidName, InvalidStep, TooMany,
                                UnknownProcess, UnlikeLogs, Unsent)
from tiedmoments.logs import Log

PLAIN = ("x", 0, None)


def send(message):
    return ("x", 0, ("send", message))


def receive(message):
    return ("y", 1, ("receive", message))


def is_sound(rows):
    """Whether each message that is received in rows is sent in them."""
    deeds = [step[2] for name, steps in rows for step in steps if step[2] is not None]
    return all(("send", message) in deeds for kind, message in deeds if kind == "receive")


def cut(rows, point):
    return [(name, list(steps)[:place]) for (name, steps), place in zip(rows, point)]


def points(rows):
    return itertools.product(*[range(len(steps) + 1) for name, steps in rows])


def walk_of(rows):
    """The triples of a walk: each time the first process is tried first."""
    places, sent, out = [0] * len(rows), [], []
    at = 0
    while at < len(rows):
        name, steps = rows[at]
        if places[at] < len(steps):
            step = steps[places[at]]
            if step[2] is None or step[2][0] == "send" or step[2][1] in sent:
                if step[2] is not None:
                    sent.append(step[2][1])
                out.append((name, places[at], step))
                places[at] += 1
                at = -1
        at += 1
    return out


class WalkTest(unittest.TestCase):

    def test_the_order(self):
        log = Log(("b", [receive("m"), PLAIN]), ("a", [PLAIN, send("m"), PLAIN]))
        self.assertEqual(list(log.walk()), [("a", 0, PLAIN), ("a", 1, send("m")), ("b", 0, receive("m")),
                                            ("b", 1, PLAIN), ("a", 2, PLAIN)])
        self.assertEqual(list(Log().walk()), [])
        self.assertEqual(list(Log(("a", [])).walk()), [])

    def test_the_triples_of_many_logs(self):
        rng = seeded(41)
        for _ in range(300):
            rows = random_rows(rng, 6, rng.choice([3, 8, 20]))
            log = Log(*rows)
            self.assertEqual(list(log.walk()), walk_of(rows))
            self.assertTrue(all(triple.__class__ is tuple for triple in log.walk()))

    def test_read_twice_and_in_turns(self):
        rng = seeded(42)
        for _ in range(40):
            rows = random_rows(rng, 4, 5)
            log = Log(*rows)
            whole = walk_of(rows)
            one, other = log.walk(), log.walk()
            self.assertIs(iter(one), one)
            in_turns = [(next(one), next(other)) for _ in whole]
            self.assertEqual(in_turns, list(zip(whole, whole)))
            self.assertIsNone(next(one, None))
            self.assertEqual(list(other), [])
            late = log.walk()
            next(late, None)
            self.assertEqual(list(log.walk()), whole)
            self.assertEqual(list(late), whole[1:])
            self.assertEqual(log.rows(), rows)


class WithStepTest(unittest.TestCase):

    def check(self, log, to, given, error, **attributes):
        before = log.rows()
        check_error(self, error, attributes, log.with_step, to, given)
        self.assertEqual(log.rows(), before)

    def test_right_steps(self):
        log = Log(("a", [send("m")]), ("b", []))
        longer = log.with_step("b", receive("m"))
        self.assertEqual(longer.rows(), [("a", [send("m")]), ("b", [receive("m")])])
        self.assertEqual(log.rows(), [("a", [send("m")]), ("b", [])])
        self.assertEqual(longer.with_step("a", PLAIN).row("a"), [send("m"), PLAIN])
        self.assertEqual(log.with_step(step=PLAIN, process="a").row("a"), [send("m"), PLAIN])
        self.assertEqual(log.with_step("a", receive("m")).row("a"), [send("m"), receive("m")])
        self.assertEqual((log.under_way(), longer.under_way(), len(longer)), (["m"], [], 2))

    def test_steps_put_together_make_the_log(self):
        rng = seeded(43)
        for _ in range(80):
            rows = random_rows(rng)
            log = Log()
            for name, _ in rows:
                log = log.with_process(name)
            for process, index, step in Log(*rows).walk():
                before = log.rows()
                longer = log.with_step(process, step)
                self.assertIs(longer.__class__, Log)
                self.assertEqual(log.rows(), before)
                self.assertEqual(longer.row(process), log.row(process) + [step])
                log = longer
            self.assertEqual(log, Log(*rows))
            self.assertEqual(list(log.walk()), walk_of(rows))

    def test_no_process(self):
        log = Log(("a", [PLAIN] * 20))
        for value in ODD_VALUES + ["b", ["a"], ("a",)]:
            self.check(log, value, PLAIN, UnknownProcess, name=value)
            self.check(log, value, "no step", UnknownProcess, name=value)
            self.check(Log(), value, receive("m"), UnknownProcess, name=value)

    def test_no_step(self):
        log = Log(("a", [PLAIN] * 20), ("b", [PLAIN, send("m")]), ("c", []))
        for value in ODD_VALUES + [["x", 0, None], ("x", 0, ["send", "m"]), ("x", True, None), ("x", 100, None), "x"]:
            for process, index in [("a", 20), ("b", 2), ("c", 0)]:
                self.check(log, process, value, InvalidStep, process=process, index=index)

    def test_a_full_row(self):
        log = Log(("a", [send("m")] + [PLAIN] * 18), ("b", [receive("m")]))
        full = log.with_step("a", PLAIN)
        self.assertEqual(full.lengths(), (20, 1))
        for step in [PLAIN, send("m"), send("k"), receive("m"), receive("k")]:
            self.check(full, "a", step, TooMany, subject="steps", most=20)
        self.assertEqual(full.with_step("b", PLAIN).lengths(), (20, 2))

    def test_messages(self):
        log = Log(("a", [send("m"), send("k")]), ("b", [receive("m")]))
        for process in ["a", "b"]:
            self.check(log, process, send("m"), DuplicateMessage, message="m")
            self.check(log, process, send("k"), DuplicateMessage, message="k")
            self.check(log, process, receive("m"), DuplicateMessage, message="m")
            self.check(log, process, receive("l"), Unsent, message="l")
            self.assertEqual(log.with_step(process, receive("k")).under_way(), [])
            self.assertEqual(log.with_step(process, send("l")).under_way(), ["k", "l"])


class WithProcessTest(unittest.TestCase):

    def check(self, log, given, error, **attributes):
        before = log.rows()
        check_error(self, error, attributes, log.with_process, given)
        self.assertEqual(log.rows(), before)

    def test_right_names(self):
        log = Log(("b", [PLAIN]))
        longer = log.with_process("a").with_process(name="start")
        self.assertEqual(longer.rows(), [("b", [PLAIN]), ("a", []), ("start", [])])
        self.assertEqual(log.rows(), [("b", [PLAIN])])
        self.assertEqual(Log().with_process("abcdef").lengths(), (0,))

    def test_wrong_names(self):
        full = Log(*[(name, []) for name in "abcdef"])
        for value in ODD_VALUES + [["a"], ("a",), "A", "abcdefg"]:
            self.check(Log(("a", [])), value, InvalidName, value=value)
            self.check(full, value, InvalidName, value=value)

    def test_names_that_are_taken(self):
        full = Log(*[(name, []) for name in "abcdef"])
        for name in "abcdef":
            self.check(full, name, DuplicateName, name=name)
        self.check(Log(("a", []), ("start", [])), "start", DuplicateName, name="start")

    def test_a_full_log(self):
        five = Log(*[(name, [PLAIN]) for name in "abcde"])
        full = five.with_process("f")
        self.assertEqual(full.processes(), list("abcdef"))
        self.check(full, "g", TooMany, subject="processes", most=6)


class UptoTest(unittest.TestCase):

    def test_all_points_of_logs(self):
        rng = seeded(44)
        for _ in range(60):
            rows = random_rows(rng, 3, 4)
            log = Log(*rows)
            for point in points(rows):
                if is_sound(cut(rows, point)):
                    early = log.upto(point)
                    self.assertIs(early.__class__, Log)
                    self.assertEqual(early.rows(), cut(rows, point))
                else:
                    check_error(self, InvalidMoment, {"value": point}, log.upto, point)
            self.assertEqual(log.upto(log.lengths()), log)
            self.assertEqual(log.rows(), rows)

    def test_values_that_are_no_points(self):
        log = Log(("a", [send("m"), PLAIN]), ("b", [receive("m")]))
        wrong = [(-1, 0), (0, -1), (3, 0), (2, 2), (1, 2), (0,), (2, 1, 0), (1, True), (True, 0), (0, False), [0, 0],
                 [2, 1], (0, None), ("1", 0), (None, None), ((0, 0),), (0, [0]), 0, "00", (2, 10 ** 9)]
        for value in ODD_VALUES + wrong:
            check_error(self, InvalidMoment, {"value": value}, log.upto, value)
        self.assertEqual(log.upto(moment=(1, 0)).rows(), [("a", [send("m")]), ("b", [])])
        check_error(self, InvalidMoment, {"value": (0, 1)}, log.upto, moment=(0, 1))

    def test_the_log_without_processes(self):
        self.assertEqual(Log().upto(()), Log())
        for value in [(0,), [], None, 0]:
            check_error(self, InvalidMoment, {"value": value}, Log().upto, value)


class PartTest(unittest.TestCase):

    def test_beginnings_of_one_log(self):
        rng = seeded(45)
        for _ in range(25):
            rows = random_rows(rng, 3, 3)
            log = Log(*rows)
            moments = [point for point in points(rows) if is_sound(cut(rows, point))]
            for one in moments[:25]:
                for other in moments[-25:]:
                    self.check_pair(log, one, other)

    def check_pair(self, log, one, other):
        within = all(x <= y for x, y in zip(one, other))
        self.assertIs(log.upto(one).is_part_of(log.upto(other)), within)
        join = tuple(max(x, y) for x, y in zip(one, other))
        meet = tuple(min(x, y) for x, y in zip(one, other))
        self.assertEqual((log.upto(one) | log.upto(other)).rows(), log.upto(join).rows())
        self.assertEqual((log.upto(one) & log.upto(other)).rows(), log.upto(meet).rows())

    def test_a_log_with_itself_and_by_name(self):
        log = Log(("a", [send("m"), PLAIN]), ("b", [receive("m")]))
        self.assertIs(log.is_part_of(other=log), True)
        self.assertEqual((log | log, log & log), (log, log))
        self.assertIs(Log().is_part_of(Log()), True)
        self.assertEqual((Log() | Log(), Log() & Log()), (Log(), Log()))

    def test_rows_that_are_no_beginnings(self):
        log = Log(("a", [PLAIN, ("y", 2, None)]), ("b", [PLAIN]))
        for steps in [[("y", 2, None)], [PLAIN, ("y", 3, None)], [PLAIN, ("z", 2, None)], [PLAIN, ("y", 2, ("send", "m"))]]:
            other = Log(("a", steps), ("b", [PLAIN, PLAIN]))
            self.assertIs(other.is_part_of(log), False)
            self.assertIs(log.is_part_of(other), False)
            check_error(self, UnlikeLogs, {}, lambda: log | other)
            check_error(self, UnlikeLogs, {}, lambda: other | log)

    def test_other_processes_and_another_order(self):
        log = Log(("a", [PLAIN]), ("b", []))
        others = [Log(("b", []), ("a", [PLAIN])), Log(("a", [PLAIN])), Log(("a", [PLAIN]), ("c", [])), Log(),
                  Log(("a", [PLAIN]), ("b", []), ("c", [])), Log(("a", []), ("bb", []))]
        for other in others:
            self.assertIs(log.is_part_of(other), False)
            self.assertIs(other.is_part_of(log), False)
            for call in (lambda: log | other, lambda: other | log, lambda: log & other, lambda: other & log):
                check_error(self, UnlikeLogs, {}, call)

    def test_the_logs_stay(self):
        one, other = Log(("a", [send("m")]), ("b", [])), Log(("a", []), ("b", [PLAIN]))
        self.assertEqual((one | other).rows(), [("a", [send("m")]), ("b", [PLAIN])])
        self.assertEqual((one & other).rows(), [("a", []), ("b", [])])
        self.assertEqual(one.rows(), [("a", [send("m")]), ("b", [])])
        self.assertEqual(other.rows(), [("a", []), ("b", [PLAIN])])


class UnionTest(unittest.TestCase):

    def test_then_the_errors_of_the_constructor(self):
        one = Log(("a", [send("m"), send("k")]), ("b", []), ("c", []))
        check_error(self, DuplicateMessage, {"message": "k"}, lambda: one | Log(("a", []), ("b", [send("k")]), ("c", [])))
        one = Log(("a", [send("m")]), ("b", [receive("m"), send("k")]), ("c", []))
        other = Log(("a", []), ("b", []), ("c", [send("m")]))
        check_error(self, DuplicateMessage, {"message": "m"}, lambda: other | one)

    def test_unlike_comes_ahead_of_the_constructor(self):
        one = Log(("a", [send("m")]), ("b", []), ("c", [PLAIN]))
        other = Log(("a", []), ("b", [send("m")]), ("c", [send("k")]))
        check_error(self, UnlikeLogs, {}, lambda: one | other)

    def test_any_two_logs(self):
        rng = seeded(46)
        seen = set()
        for _ in range(600):
            one, other = forked_rows(rng)
            seen.add(self.check(one, other))
            seen.add(self.check(other, one))
        self.assertEqual(seen, {"", "UnlikeLogs", "DuplicateMessage"})

    def check(self, one, other):
        rows = []
        for (name, first), (_, second) in zip(one, other):
            longer, shorter = (first, second) if len(first) > len(second) else (second, first)
            if longer[:len(shorter)] != shorter:
                check_error(self, UnlikeLogs, {}, lambda: Log(*one) | Log(*other))
                return "UnlikeLogs"
            rows.append((name, longer))
        error = message_error(rows)
        if error is not None:
            check_error(self, error[0], error[1], lambda: Log(*one) | Log(*other))
            return error[0].__name__
        self.assertEqual((Log(*one) | Log(*other)).rows(), rows)
        return ""


class SharedTest(unittest.TestCase):

    def test_what_is_received_and_sent_in_no_shared_step_is_cut(self):
        one = Log(("a", [PLAIN, send("m")]), ("b", [PLAIN, receive("m"), send("k")]), ("c", [receive("k"), PLAIN]))
        other = Log(("a", [send("m")]), ("b", [PLAIN, receive("m"), send("k")]), ("c", [receive("k"), PLAIN]))
        self.assertEqual((one & other).rows(), [("a", []), ("b", [PLAIN]), ("c", [])])
        self.assertEqual((other & one).rows(), [("a", []), ("b", [PLAIN]), ("c", [])])

    def test_the_greatest_log_that_is_part_of_both(self):
        rng = seeded(47)
        deeper = 0
        for _ in range(300):
            one, other = forked_rows(rng)
            both = Log(*one) & Log(*other)
            self.assertIs(both.__class__, Log)
            shared = [point for point in points(one) if is_sound(cut(one, point)) and is_shared(one, other, point)]
            self.assertIn(both.lengths(), shared)
            self.assertEqual(both.rows(), cut(one, both.lengths()))
            self.assertTrue(all(x <= y for point in shared for x, y in zip(point, both.lengths())))
            self.assertEqual(both, Log(*other) & Log(*one))
            deeper += both.lengths() != tuple(map(common, one, other))
        self.assertGreater(deeper, 10)


def forked_rows(rng):
    """Two lists of rows of the same processes, often with common beginnings."""
    whole = random_rows(rng, 3, 4, 2)
    moments = [point for point in points(whole) if is_sound(cut(whole, point))]
    return [changed_rows(rng, cut(whole, rng.choice(moments[len(moments) // 2:]))) for _ in range(2)]


def changed_rows(rng, rows):
    """The rows, or rows with a step that has another number or with one more step."""
    kind = rng.randrange(3)
    filled = [steps for name, steps in rows if steps]
    if kind == 0 and filled:
        steps = rng.choice(filled)
        at = rng.randrange(len(steps))
        steps[at] = (steps[at][0], 42, steps[at][2])
    elif kind == 1 and rows:
        rng.choice(rows)[1].append(rng.choice([PLAIN, send("qq")]))
    return rows


def common(one, other):
    length = 0
    for step, match in zip(one[1], other[1]):
        if step != match:
            break
        length += 1
    return length


def is_shared(one, other, point):
    return all(place <= common(*rows) for place, rows in zip(point, zip(one, other)))


if __name__ == "__main__":
    unittest.main()
