"""The errors of the constructor of logs, and which of several is raised."""

import unittest

from tests.helper import ODD_VALUES, check_error, copy_of, crossing_rows, message_error, random_rows, seeded
from tiedmoments.errors import (DuplicateMessage, DuplicateName, InvalidRow, InvalidStep, Ring, TooMany, UnknownProcess,
                                Unsent)
from tiedmoments.logs import Log
from tiedmoments.words import is_name, is_step

SEND, RECEIVE = ("x", 0, ("send", "m")), ("y", 0, ("receive", "m"))
PLAIN = ("x", 0, None)


def expected_error(rows):
    """The error that any rows require, or None."""
    if len(rows) > 6:
        return TooMany, {"subject": "processes", "most": 6}
    for at, row in enumerate(rows):
        if row.__class__ is not tuple or len(row) != 2 or not is_name(row[0]) or row[1].__class__ not in (list, tuple):
            return InvalidRow, {"at": at}
    names = [name for name, steps in rows]
    for at, name in enumerate(names):
        if names.index(name) < at:
            return DuplicateName, {"name": name}
    if any(len(steps) > 20 for name, steps in rows):
        return TooMany, {"subject": "steps", "most": 20}
    for name, steps in rows:
        for index, step in enumerate(steps):
            if not is_step(step):
                return InvalidStep, {"process": name, "index": index}
    return message_error(rows)


class ConstructorErrorTest(unittest.TestCase):

    def check(self, rows, error, **attributes):
        self.assertEqual(expected_error(rows), (error, attributes))
        check_error(self, error, attributes, Log, *rows)

    def test_too_many_processes(self):
        names = ["a", "b", "c", "d", "e", "f", "g", "h"]
        rows = [(name, []) for name in names]
        self.assertEqual(Log(*rows[:6]).processes(), names[:6])
        self.check(rows[:7], TooMany, subject="processes", most=6)
        self.check(rows, TooMany, subject="processes", most=6)
        self.check([None] * 7, TooMany, subject="processes", most=6)
        self.check([("a", [SEND, SEND])] * 7, TooMany, subject="processes", most=6)

    def test_values_that_are_no_rows(self):
        good = ("a", [PLAIN])
        wrong = [value for value in ODD_VALUES if value != good]
        wrong += [["b", []], ("b",), ("b", [], []), ("b", None), ("b", "xy"), ("b", 3), ("B", []), ("", []), (None, []),
                  ("abcdefg", []), (True, []), (("b",), []), (["b"], []), ([], "b"), ("b ", []), ()]
        for value in wrong:
            self.check([value], InvalidRow, at=0)
            self.check([good, value], InvalidRow, at=1)
            self.check([good, ("b", [1]), value, value, good], InvalidRow, at=2)

    def test_names_of_all_lengths(self):
        self.assertEqual(Log(("a", []), ("abcdef", [])).processes(), ["a", "abcdef"])

    def test_duplicate_names(self):
        self.check([("a", []), ("a", [])], DuplicateName, name="a")
        self.check([("a", []), ("b", []), ("b", []), ("a", [])], DuplicateName, name="b")
        self.check([("a", []), ("b", []), ("a", []), ("b", [])], DuplicateName, name="a")
        self.check([("a", [PLAIN] * 21), ("a", [1])], DuplicateName, name="a")

    def test_too_many_steps(self):
        self.assertEqual(Log(("a", [PLAIN] * 20)).lengths(), (20,))
        for count in (21, 22, 100):
            self.check([("a", [PLAIN] * count)], TooMany, subject="steps", most=20)
            self.check([("a", (PLAIN,) * count)], TooMany, subject="steps", most=20)
        self.check([("a", [1, SEND, SEND]), ("b", [None] * 21)], TooMany, subject="steps", most=20)

    def test_items_that_are_no_steps(self):
        for value in ODD_VALUES + [["x", 0, None], ("x", True, None), ("x", 100, None), ("x", 0, ["send", "m"]),
                                   ("start", 0, None)]:
            for at in (0, 1, 2):
                steps = [PLAIN, PLAIN]
                steps.insert(at, value)
                self.check([("a", []), ("b", steps), ("c", [value])], InvalidStep, process="b", index=at)
        self.check([("a", [PLAIN] * 19 + [()])], InvalidStep, process="a", index=19)
        self.check([("a", [SEND, SEND]), ("b", [RECEIVE, None])], InvalidStep, process="b", index=1)

    def test_duplicate_messages(self):
        self.check([("a", [SEND, SEND])], DuplicateMessage, message="m")
        self.check([("a", [SEND]), ("b", [SEND])], DuplicateMessage, message="m")
        self.check([("a", [SEND]), ("b", [RECEIVE, RECEIVE])], DuplicateMessage, message="m")
        self.check([("a", [RECEIVE]), ("b", [RECEIVE])], DuplicateMessage, message="m")
        sends = [("x", 0, ("send", message)) for message in ["k", "l", "l", "k"]]
        self.check([("a", sends)], DuplicateMessage, message="l")
        self.check([("a", sends[:2]), ("b", [sends[0], sends[1]])], DuplicateMessage, message="k")
        unsent = ("x", 0, ("receive", "u"))
        self.check([("a", [unsent, SEND]), ("b", [SEND])], DuplicateMessage, message="m")

    def test_unsent_messages(self):
        self.check([("a", [RECEIVE])], Unsent, message="m")
        receives = [("x", 0, ("receive", message)) for message in ["k", "l", "m"]]
        self.check([("a", [SEND]), ("b", receives[::-1])], Unsent, message="l")
        self.check([("a", [receives[2]]), ("b", [receives[0]]), ("c", [SEND])], Unsent, message="k")
        self.check([("a", [RECEIVE, SEND]), ("b", [receives[0]])], Unsent, message="k")

    def test_rings(self):
        self.check([("a", [RECEIVE, SEND])], Ring, process="a")
        one, two = ("x", 0, ("send", "k")), ("x", 0, ("receive", "k"))
        self.check([("a", [RECEIVE, one]), ("b", [two, SEND])], Ring, process="a")
        self.check([("c", [PLAIN]), ("b", [PLAIN, two, SEND]), ("a", [RECEIVE, one])], Ring, process="b")
        waits = [("x", 0, ("send", "w")), ("x", 0, ("receive", "w"))]
        ring = [("b", [two, SEND, waits[0]]), ("c", [RECEIVE, one])]
        self.check([("a", [PLAIN, waits[1]])] + ring, Ring, process="a")
        self.check(ring + [("a", [PLAIN, waits[1]])], Ring, process="b")

    def test_the_errors_come_in_order(self):
        ring, unsent = ("e", [RECEIVE, SEND]), ("d", [("x", 0, ("receive", "u"))])
        double = ("c", [("x", 0, ("send", "v")), ("x", 0, ("send", "v"))])
        step, steps = ("b", [PLAIN, "x"]), ("a", [PLAIN] * 21)
        self.check([ring, unsent, double, step, steps, ("e", []), None], TooMany, subject="processes", most=6)
        self.check([ring, unsent, double, steps, ("e", []), None], InvalidRow, at=5)
        self.check([ring, unsent, double, step, steps, ("e", [])], DuplicateName, name="e")
        self.check([ring, unsent, double, step, steps], TooMany, subject="steps", most=20)
        self.check([ring, unsent, double, step], InvalidStep, process="b", index=1)
        self.check([ring, unsent, double], DuplicateMessage, message="v")
        self.check([ring, unsent], Unsent, message="u")
        self.check([ring], Ring, process="e")


class RandomErrorTest(unittest.TestCase):

    def check(self, rows):
        error = expected_error(rows)
        if error is None:
            self.assertEqual(Log(*rows).rows(), [(name, list(steps)) for name, steps in rows])
        else:
            check_error(self, error[0], error[1], Log, *rows)
        return "" if error is None else error[0].__name__

    def spoil(self, rng, rows):
        """Rows with one thing changed that often makes them wrong."""
        rows = copy_of(rows)
        kind = rng.randrange(8)
        if kind == 0 or not rows:
            rows.insert(rng.randint(0, len(rows)), rng.choice([None, ("A", []), ["n", []], ("n",), ("new", [PLAIN])]))
        elif kind == 1:
            rows.insert(rng.randint(0, len(rows)), (rng.choice(rows)[0], [PLAIN]))
        elif kind == 2:
            rng.choice(rows)[1].extend([PLAIN] * rng.choice([1, 20, 21]))
        elif kind < 5:
            steps = rng.choice(rows)[1]
            steps.reverse()
        else:
            steps = rng.choice(rows)[1]
            fresh = [None, ("x", True, None), ("x", 0, ("send", "aa")), ("x", 0, ("receive", "ab")), ["x", 0, None]]
            steps.insert(rng.randint(0, len(steps)), rng.choice(fresh + [step for _, row in rows for step in row]))
        return rows

    def test_several_things_wrong_at_once(self):
        rng = seeded(21)
        seen = set()
        for _ in range(1500):
            rows = random_rows(rng, 6, rng.choice([2, 5, 20]))
            self.assertEqual(self.check(rows), "")
            for _ in range(rng.randint(1, 4)):
                if all(row.__class__ is tuple and len(row) == 2 for row in rows):
                    rows = self.spoil(rng, rows)
            seen.add(self.check(rows))
        self.assertEqual(seen, {"", "TooMany", "InvalidRow", "DuplicateName", "InvalidStep", "DuplicateMessage", "Unsent",
                                "Ring"})

    def test_messages_to_and_fro_without_regard_to_order(self):
        rng = seeded(22)
        seen = {}
        for _ in range(6000):
            name = self.check(crossing_rows(rng, rng.randint(2, 3), 4))
            seen[name] = seen.get(name, 0) + 1
        self.assertEqual(set(seen), {"", "DuplicateMessage", "Unsent", "Ring"})
        self.assertGreater(seen["Ring"], 20)

    def test_all_orders_of_two_rows_with_two_messages(self):
        deeds = [("send", "k"), ("receive", "k"), ("send", "l"), ("receive", "l")]
        for code in range(4 ** 4):
            picked = [("x", 0, deeds[code // 4 ** place % 4]) for place in range(4)]
            for cut in range(5):
                self.check([("a", picked[:cut]), ("b", picked[cut:])])

    def test_no_process_is_known_to_a_log_that_failed(self):
        with self.assertRaises(Ring):
            Log(("a", [RECEIVE, SEND]))
        check_error(self, UnknownProcess, {"name": "a"}, Log().row, "a")


if __name__ == "__main__":
    unittest.main()
