"""Pages of tracers, written, read back and read where a line is wrong; charts of logs."""

import itertools
import unittest

from tests.helper import ODD_VALUES, check_error, message_error, meet, moments_of, random_rows, seeded, small_rows
from tests.test_tracers import TEXTS, Model, TracerCase, random_command
from tiedmoments.conditions import condition_text
from tiedmoments.errors import InvalidPage
from tiedmoments.logs import Log
from tiedmoments.moments import past
from tiedmoments.pages import chart, read_page, write_page
from tiedmoments.tracers import Tracer

EXAMPLE = "a: x=2!m y\nb: y=-1?m\n--\nu =\nv = a in x start\nw = a.x <= b.* + 0 & b upto 1\n"
# A line, and where it may stand: in the log, behind it, or nowhere.
LINES = {
    "c:": "log", "c: x=1": "log", "c: x!k y": "log", "d: y?k": "log", "e: x!m": "log", "a: x": "log", "start:": "log",
    "f:" + " x" * 20: "log", "f:" + " x" * 21: "", "x =": "watch", "y = a in x": "watch", "abcdef =": "watch",
    "uu = b from 1": "watch", "v =": "watch", "z = q in x": "strange", "z = a in x & q from 0": "strange", "--": "cut",
    "": "", " ": "", "c": "", "c:x": "", "c: ": "", "c : x": "", "c:  x": "", "C:": "", "c: x=0": "", "abcdefg:": "", "-": "",
    "---": "", "-- ": "", " --": "", "x": "", "x=": "", "x  =": "", "x = ": "", "x =  a in x": "", "x = a in": "", "X =": "",
    "x = a in x & ": "", "x = a in x &": "", "x == a in x": "", "abcdefg =": "", "x = a in x =": "", "= a in x": "", " =": "",
    "x =ba in x": "", "x =- in x": "", "x =a from 0": "", "x =ba from 0": "",
}


def expected_index(lines, cut_off):
    """The index of the first wrong line, or None; the last line lacks its line feed if it is cut off."""
    log = []
    last = ""
    watches = 0
    cut = None
    for at, line in enumerate(lines):
        if cut_off and at == len(lines) - 1:
            return at
        kind = LINES.get(line, "watch" if " =" in line else "log")
        if cut is None and kind == "cut":
            cut = at
            if not is_log(log):
                return at
        elif cut is None:
            if kind != "log" or at == 6:
                return at
            log.append(line)
        else:
            name = line.split(" ")[0]
            if kind not in ("watch", "strange") or watches == 12 or name <= last or not fits(line, log):
                return at
            last = name
            watches += 1
    return len(lines) if cut is None else None


def rows_of(lines):
    deeds = {"!": "send", "?": "receive"}
    rows = []
    for line in lines:
        name, *steps = line.split(" ")
        rows.append((name[:-1], [read(step, deeds) for step in steps]))
    return rows


def read(step, deeds):
    for sign, kind in deeds.items():
        if sign in step:
            return (step[0], 0, (kind, step.split(sign)[1]))
    return (step[0], 0, None)


def is_log(lines):
    rows = rows_of(lines)
    names = [name for name, steps in rows]
    return len(set(names)) == len(names) and message_error(rows) is None


def fits(line, log):
    """Whether the processes of the conditions above are those of a log; they are a, b and q."""
    names = [row.split(":")[0] for row in log]
    words = line.split(" ")[2:]
    used = {word.split(".")[0] for word in words if "." in word}
    used |= {words[at - 1] for at, word in enumerate(words) if word in ("in", "from", "upto")}
    return all(name in names for name in used)


class WriteTest(TracerCase):

    def test_the_example(self):
        tracer = Tracer(Log.read("a: x=2!m y\nb: y=-1?m\n"))
        tracer.apply(("watch", "w", "a.x <= b.* + 0 & b upto 1"), ("watch", "u", ""), ("watch", "v", "a in x start"))
        self.assertEqual(write_page(tracer), EXAMPLE)
        self.assertEqual(write_page(tracer=tracer), EXAMPLE)
        self.assertEqual(write_page(Tracer()), "--\n")

    def test_written_and_read_back(self):
        rng = seeded(221)
        for _ in range(150):
            tracer, model = self.started(rng, 12)
            for _ in range(rng.randint(0, 12)):
                self.check_call(tracer, model, [random_command(rng, 0)])
            lines = [f"{name} = {condition_text(model.watches[name])}".rstrip() for name in sorted(model.watches)]
            page = Log(*model.rows).text() + "--\n" + "".join(line + "\n" for line in lines)
            self.assertEqual(write_page(tracer), page)
            found = read_page(page)
            again = Model(model.rows, 12)
            again.watches = dict(model.watches)
            self.check_state(found, again)
            self.assertEqual((found, write_page(found), read_page(text=page)), (tracer, page, tracer))

    def test_great_logs_and_many_watches(self):
        rng = seeded(222)
        for _ in range(40):
            log = Log(*random_rows(rng))
            tracer = Tracer(log, limit=12)
            for name in rng.sample("abcdefghijklmnop", rng.randint(0, 12)):
                tracer.apply(("watch", name, " & ".join(f"{process} from 0" for process in log.processes())))
            found = read_page(write_page(tracer))
            self.assertEqual((found, found.limit, found.history(), found.kept()), (tracer, 12, (0, 0), []))

    def test_a_tracer_that_is_read_goes_on(self):
        tracer = read_page(EXAMPLE)
        tracer.apply(("change", "v", "a from 1"), ("process", "c"))
        self.assertEqual(tracer.history(), (1, 0))
        tracer.undo()
        self.assertEqual(write_page(tracer), EXAMPLE)
        self.assertEqual((tracer.lot_for("v").many(), tracer.computed, read_page(EXAMPLE).computed), (3, 1, 0))


class WrongPageTest(unittest.TestCase):

    def check_lines(self, lines, cut_off=False):
        text = "".join(line + "\n" for line in lines)
        text = text[:-1] if cut_off else text
        expected = expected_index(lines, cut_off)
        if expected is None:
            self.assertEqual(write_page(read_page(text)), text)
        else:
            check_error(self, InvalidPage, {"line": expected}, read_page, text)
            check_error(self, InvalidPage, {"line": expected}, read_page, text=text)
        return expected is None

    def test_one_line_replaced_put_in_exchanged_or_cut(self):
        counts = {True: 0, False: 0}
        pages = [EXAMPLE, "--\n", "a: x\nb:\n--\n", "--\nu =\n", "a: x\n--\nu = a in x\nw =\n",
                 "a:\nb:\nbb:\nbbb:\nbc:\n--\nu =\n", "a:\nb:\nbb:\nbbb:\nbc:\nbd:\n--\nu =\n"]
        for page in pages:
            lines = page.split("\n")[:-1]
            for at in range(len(lines) + 1):
                for line in LINES:
                    counts[self.check_lines(lines[:at] + [line] + lines[at:])] += 1
                    counts[self.check_lines(lines[:at] + [line] + lines[at + 1:])] += 1
                    self.check_lines(lines[:at] + [line], line != "")
                self.check_lines(lines[:at])
                self.check_lines(lines[at:])
                self.check_lines(lines[:at] + lines[at + 1:])
                self.check_lines(lines[:at] + lines[at:at + 1] * 2 + lines[at + 1:])
            for one, other in itertools.combinations(range(len(lines)), 2):
                changed = list(lines)
                changed[one], changed[other] = lines[other], lines[one]
                counts[self.check_lines(changed)] += 1
            self.check_lines(lines, True)
        self.assertTrue(min(counts.values()) > 50, counts)

    def test_texts_cut_at_any_place(self):
        for at in range(len(EXAMPLE)):
            text = EXAMPLE[:at]
            whole = text == "" or text.endswith("\n")
            if whole and text.count("\n") > 2:
                self.assertEqual(write_page(read_page(text)), text)
            else:
                # A line that lacks its line feed, or a text that ends too early.
                check_error(self, InvalidPage, {"line": text.count("\n")}, read_page, text)

    def test_wrong_lines_by_their_first_index(self):
        for text, line in [
                ("", 0), ("\n", 0), ("--", 0), ("a:", 0), ("a:\n", 1), ("a:\nb:\n", 2), ("a:\n--", 1), ("a:\nb", 1),
                ("a:\na:\n--\n", 2), ("a:\na:\n", 2), ("a:\na:\n--\nwrong\n", 2), ("a: x?m\n--\n", 1), ("a: x!m x!m\n--\n", 1),
                ("a: x?k y!l\nb: x?l y!k\n--\n", 2), ("a:\n-\n--\n", 1), ("--\n--\n", 1), ("--\nu =\nu =\n", 2),
                ("--\nv =\nu =\n", 2), ("--\nu = a from 0\n", 1), ("a:\n--\nu = a from 0 & b from 0\n", 2), ("--\nu =", 1),
                ("--\nu = \n", 1), ("--\n\n", 1), ("\n--\n", 0), ("a:\n\n--\n", 1), ("--\nu = a from\n", 1), ("--\n--", 1)]:
            check_error(self, InvalidPage, {"line": line}, read_page, text)

    def test_a_seventh_line(self):
        lines = "".join(f"{name}:\n" for name in "abcdefg")
        self.assertEqual(len(read_page(lines[:18] + "--\n").present.processes()), 6)
        for text in [lines + "--\n", lines + "--\nwrong\n", lines + "wrong\n--\n", lines[:18] + "a:\n--\n", lines]:
            check_error(self, InvalidPage, {"line": 6}, read_page, text)
        check_error(self, InvalidPage, {"line": 2}, read_page, "a:\nb:\n-\n" + lines)

    def test_the_thirteenth_watch(self):
        watches = [f"{name} =\n" for name in "abcdefghijklmn"]
        self.assertEqual(len(read_page("--\n" + "".join(watches[:12]))), 12)
        for many in (13, 14):
            check_error(self, InvalidPage, {"line": 13}, read_page, "--\n" + "".join(watches[:many]))
        check_error(self, InvalidPage, {"line": 12}, read_page, "--\n" + "".join(watches[:11] + ["a =\n"] + watches[12:]))

    def test_watches_that_do_not_fit(self):
        page = "a: x\nb: y\n--\n"
        for text, condition in TEXTS.items():
            right = condition.__class__ is tuple and not any(name in text for name in ("q", "c "))
            line = f"u = {text}\n" if text != "" else "u =\n"
            if right:
                self.assertEqual(read_page(page + line).condition_of("u"), condition)
            else:
                check_error(self, InvalidPage, {"line": 3}, read_page, page + line)
                check_error(self, InvalidPage, {"line": 4}, read_page, page + "t =\n" + line + "wrong\n")

    def test_values_that_are_no_strings(self):
        for value in ODD_VALUES + [[EXAMPLE], (EXAMPLE,)]:
            if value.__class__ is not str:
                check_error(self, InvalidPage, {"line": 0}, read_page, value)
                check_error(self, InvalidPage, {"line": 0}, read_page, text=value)


class ChartTest(unittest.TestCase):

    def test_an_example(self):
        log = Log.read("a: x y!m\nabcdef: zzzz?m\n")
        expected = ["a       0 x     1  0", "a       1 y     2  0", "abcdef  0 zzzz  2  1"]
        self.assertEqual((chart(log), chart(log=log)), (expected, expected))
        self.assertEqual((chart(Log()), chart(Log(("a", [])))), ([], []))

    def test_small_logs_against_their_moments(self):
        rng = seeded(223)
        for _ in range(100):
            rows = small_rows(rng)
            expected = []
            for own, (name, steps) in enumerate(rows):
                for index, step in enumerate(steps):
                    least = meet(*[moment for moment in moments_of(rows) if moment[own] > index])
                    places = "".join(" " + str(place).rjust(2) for place in least)
                    expected.append(name.ljust(6) + " " + str(index).rjust(2) + " " + step[0].ljust(4) + places)
            self.assertEqual(chart(Log(*rows)), expected)

    def test_great_logs_against_the_pasts(self):
        rng = seeded(224)
        for _ in range(60):
            rows = random_rows(rng, 6, 20)
            log = Log(*rows)
            expected = []
            for name, steps in rows:
                for index, step in enumerate(steps):
                    places = "".join(" " + str(place).rjust(2) for place in past(log, (name, index)))
                    expected.append(name.ljust(6) + " " + str(index).rjust(2) + " " + step[0].ljust(4) + places)
            found = chart(log)
            self.assertEqual(found, expected)
            found.clear()
            self.assertEqual(chart(log), expected)


if __name__ == "__main__":
    unittest.main()
