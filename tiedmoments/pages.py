"""Pages: the texts of tracers, and charts of logs."""

from tiedmoments.conditions import check, condition_text, read_condition
from tiedmoments.errors import InvalidPage, InvalidText, LogError, UnknownProcess
from tiedmoments.logs import Log, read_row
from tiedmoments.moments import pasts
from tiedmoments.tracers import Tracer, tracer_of
from tiedmoments.words import is_name

CUT = "--"


def write_page(tracer):
    """The page of a tracer: its log, a line of two dashes, and its watches."""
    watches = "".join([_watch_line(name, condition) for name, condition in tracer.watches()])
    return f"{tracer.present.text()}{CUT}\n{watches}"


def read_page(text):
    """The tracer with a page, without history."""
    if not isinstance(text, str):
        raise InvalidPage(0)
    *lines, rest = text.split("\n")
    cut = _length_ahead(lines, CUT)
    rows = _read_rows(lines[:cut])
    # Here the text ends too early, perhaps with a line that lacks its line feed.
    if cut == len(lines):
        raise InvalidPage(cut)
    log = _log_of(rows, cut)
    watches = _read_watches(log, lines, cut + 1)
    if rest != "":
        raise InvalidPage(len(lines))
    return tracer_of(log, watches)


def chart(log):
    """A line for each step, by processes and indexes, with its process, index, mark and past."""
    known = pasts(log)
    steps = [(name, index, step) for name, row in log.rows() for index, step in enumerate(row)]
    return [_chart_line(name, index, step[0], known[(name, index)]) for name, index, step in steps]


def _chart_line(name, index, mark, past):
    places = "".join([f" {place:>2}" for place in past])
    return f"{name:<6} {index:>2} {mark:<4}{places}"


def _watch_line(name, condition):
    text = condition_text(condition)
    return f"{name} = {text}\n" if text != "" else f"{name} =\n"


def _length_ahead(lines, line):
    """The number of the lines ahead of the first one that equals a line, or of all if none does."""
    length = 0
    while length < len(lines) and lines[length] != line:
        length += 1
    return length


def _read_rows(lines):
    """The rows of the lines of a log."""
    rows = [read_row(line) for line in lines]
    for at, row in enumerate(rows):
        if row is None or at >= Log.PROCESSES:
            raise InvalidPage(at)
    return rows


def _log_of(rows, cut):
    """The log with some rows; it must be right at the line behind them."""
    try:
        return Log(*rows)
    except LogError:
        raise InvalidPage(cut) from None


def _read_watches(log, lines, first):
    """The watches in the lines from one on."""
    watches = {}
    last = ""
    for at in range(first, len(lines)):
        watch = _read_watch(log, lines[at])
        if watch is None or len(watches) >= Tracer.MOST or watch[0] <= last:
            raise InvalidPage(at)
        last, condition = watch
        watches[last] = condition
    return watches


def _read_watch(log, line):
    """The name and the condition in a line, or None if it is no line of a watch that fits a log."""
    name, sign, text = line.partition(" =")
    # The text of the condition without clauses has no space ahead of it.
    if not is_name(name) or sign == "" or text == " " or (text != "" and not text.startswith(" ")):
        return None
    try:
        condition = read_condition(text[1:])
        check(log, condition)
    except (InvalidText, UnknownProcess):
        return None
    return name, condition
