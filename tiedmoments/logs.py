"""Logs: the steps of several processes and the messages that they send to one another."""

from tiedmoments.errors import DuplicateMessage, DuplicateName, InvalidMoment, InvalidName, InvalidNumber
from tiedmoments.errors import InvalidRow, InvalidStep, InvalidText, Ring, TooMany, UnknownProcess, UnlikeLogs
from tiedmoments.errors import Unsent
from tiedmoments.words import START, is_name, is_number, is_step, read_step, step_text


class Log:
    """The rows of several processes; a log never changes."""

    PROCESSES = 6
    STEPS = 20

    def __init__(self, *rows):
        _check_rows(rows)
        _check_steps(rows)
        _check_messages(rows)
        order = _order_of(rows)
        _check_ends(rows, order)
        self._rows = [(name, tuple(steps)) for name, steps in rows]
        self._order = order

    def processes(self):
        """The list of the names of the processes."""
        return _names(self._rows)

    def row(self, process):
        """The list of the steps of a process."""
        for name, steps in self._rows:
            if name == process:
                return list(steps)
        raise UnknownProcess(process)

    def mark(self, process, place):
        """The mark of a process at a place."""
        steps = self.row(process)
        if not is_number(place, 0, len(steps)):
            raise InvalidNumber(place)
        return START if place == 0 else steps[place - 1][0]

    def rows(self):
        """The list of the pairs (name, list of steps)."""
        return [(name, list(steps)) for name, steps in self._rows]

    def lengths(self):
        """The tuple of the lengths of the rows."""
        return tuple([len(steps) for name, steps in self._rows])

    def under_way(self):
        """The ascending list of the messages that are sent and not received."""
        deeds = _deeds(self._rows)
        return sorted([word for kind, word in deeds if kind == "send" and ("receive", word) not in deeds])

    def with_step(self, process, step):
        """The log with one more step at the end of the row of a process."""
        steps = self.row(process)
        if not is_step(step):
            raise InvalidStep(process, len(steps))
        # The constructor looks for the other errors, in the order in which they are listed for a step.
        rows = [(name, (*row, step) if name == process else row) for name, row in self._rows]
        return Log(*rows)

    def with_process(self, name):
        """The log with one more process, without steps, behind the others."""
        if not is_name(name):
            raise InvalidName(name)
        if name in _names(self._rows):
            raise DuplicateName(name)
        # The constructor looks for too many processes ahead of the names, which would be the wrong order here.
        return Log(*self._rows, (name, ()))

    def upto(self, moment):
        """The log of the steps that a moment has."""
        if not are_places(moment, self.lengths()):
            raise InvalidMoment(moment)
        rows = [(name, steps[:place]) for (name, steps), place in zip(self._rows, moment)]
        if _first_unsent(rows) is not None:
            raise InvalidMoment(moment)
        return Log(*rows)

    def walk(self):
        """A generator of the triples (process, index, step), in the order in which the steps can be made."""
        yield from self._order

    def order(self):
        """The list of the triples of walk, for what may not run a generator."""
        return list(self._order)

    def is_part_of(self, other):
        """Whether both logs have the same processes and each row is a beginning of the other log's."""
        if not _are_like(self, other):
            return False
        return all([_is_beginning(one, two) for one, two in _pairs(self, other)])

    def text(self):
        """The text of the log, a line for each process."""
        return "".join([_row_text(name, steps) for name, steps in self._rows])

    @classmethod
    def read(cls, text):
        """The log with a text."""
        if not isinstance(text, str):
            raise InvalidText(0)
        lines = text.split("\n")
        rows = []
        for at, line in enumerate(lines[:-1]):
            row = read_row(line)
            if row is None or at >= cls.PROCESSES:
                raise InvalidText(at)
            rows.append(row)
        # What stands behind the last line feed is a line that lacks its own.
        if lines[-1] != "":
            raise InvalidText(len(lines) - 1)
        return cls(*rows)

    def __or__(self, other):
        if not _are_like(self, other):
            raise UnlikeLogs()
        for one, two in _pairs(self, other):
            if not _is_beginning(one, two) and not _is_beginning(two, one):
                raise UnlikeLogs()
        longer = [max(one, two, key=len) for one, two in _pairs(self, other)]
        rows = list(zip(_names(self._rows), longer))
        return Log(*rows)

    def __and__(self, other):
        if not _are_like(self, other):
            raise UnlikeLogs()
        shared = [_common_beginning(one, two) for one, two in _pairs(self, other)]
        rows = _without_unsent(list(zip(_names(self._rows), shared)))
        return Log(*rows)

    def __eq__(self, other):
        return isinstance(other, Log) and self._rows == other._rows

    def __contains__(self, process):
        return process in _names(self._rows)

    def __len__(self):
        return len(self._order)

    def __bool__(self):
        return True

    def __str__(self):
        return str(self.text())

    def __repr__(self):
        return f"Log({len(self._rows)} processes, {len(self._order)} steps)"


def _check_rows(rows):
    if len(rows) > Log.PROCESSES:
        raise TooMany("processes", Log.PROCESSES)
    for at, row in enumerate(rows):
        if not _is_row(row):
            raise InvalidRow(at)
    names = _names(rows)
    for at, name in enumerate(names):
        if name in names[:at]:
            raise DuplicateName(name)


def _is_row(value):
    if not isinstance(value, tuple) or len(value) != 2:
        return False
    return is_name(value[0]) and isinstance(value[1], (list, tuple))


def _check_steps(rows):
    for name, steps in rows:
        if len(steps) > Log.STEPS:
            raise TooMany("steps", Log.STEPS)
    for name, steps in rows:
        for index, step in enumerate(steps):
            if not is_step(step):
                raise InvalidStep(name, index)


def _check_messages(rows):
    found = {}
    for deed in _deeds(rows):
        if deed in found:
            raise DuplicateMessage(deed[1])
        found[deed] = True
    message = _first_unsent(rows)
    if message is not None:
        raise Unsent(message)


def _check_ends(rows, order):
    made = [process for process, index, step in order]
    for name, steps in rows:
        if made.count(name) < len(steps):
            raise Ring(name)


def _names(rows):
    return [name for name, steps in rows]


def _deeds(rows):
    """The deeds of all steps that have one, in the order of the rows and steps."""
    return [deed for name, steps in rows for mark, number, deed in steps if deed is not None]


def _first_unsent(rows):
    """The first message that is received and not sent, or None."""
    deeds = _deeds(rows)
    for kind, message in deeds:
        if kind == "receive" and ("send", message) not in deeds:
            return message
    return None


def _order_of(rows):
    """The triples of the steps that can be made, each time the one of the first process that has one."""
    places = [0 for row in rows]
    made = {}
    order = []
    at = _first_ready(rows, places, made)
    while at is not None:
        name, steps = rows[at]
        step = steps[places[at]]
        order.append((name, places[at], step))
        places[at] = places[at] + 1
        if step[2] is not None:
            made[step[2]] = True
        at = _first_ready(rows, places, made)
    return order


def _first_ready(rows, places, made):
    """The index of the first row whose next step can be made when these deeds are, or None."""
    for at, (name, steps) in enumerate(rows):
        if places[at] < len(steps) and _can_be_made(steps[places[at]], made):
            return at
    return None


def _can_be_made(step, made):
    deed = step[2]
    return deed is None or deed[0] == "send" or ("send", deed[1]) in made


def are_places(value, lengths):
    """Whether any value is a tuple with a place for each row, from 0 to the length of the row."""
    if not isinstance(value, tuple) or len(value) != len(lengths):
        return False
    return all([is_number(place, 0, length) for place, length in zip(value, lengths)])


def _are_like(one, other):
    """Whether a value is a log with the same processes as a log, in the same order."""
    return isinstance(other, Log) and _names(one._rows) == _names(other._rows)


def _pairs(one, other):
    """The pairs of the rows of each process in two logs."""
    return [(first[1], second[1]) for first, second in zip(one._rows, other._rows)]


def _is_beginning(one, other):
    return other[:len(one)] == one


def _common_beginning(one, other):
    length = 0
    while length < min(len(one), len(other)) and one[length] == other[length]:
        length += 1
    return one[:length]


def _without_unsent(rows):
    """The longest beginnings of the rows in which no message is received that is not sent."""
    message = _first_unsent(rows)
    while message is not None:
        rows = [(name, _ahead_of(("receive", message), steps)) for name, steps in rows]
        # A step that is cut may have sent a message that is received in another row.
        message = _first_unsent(rows)
    return rows


def _ahead_of(deed, steps):
    """The steps that stand ahead of the one with a deed, or all if none has it."""
    length = 0
    while length < len(steps) and steps[length][2] != deed:
        length += 1
    return steps[:length]


def _row_text(name, steps):
    words = [step_text(step) for step in steps]
    return " ".join([f"{name}:", *words]) + "\n"


def read_row(line):
    """The pair of a name and a list of steps with a text, or None."""
    name, colon, rest = line.partition(":")
    # A space stands ahead of each step, so nothing may stand ahead of the first space.
    words = rest.split(" ")
    steps = [read_step(word) for word in words[1:]]
    if not is_name(name) or colon == "" or words[0] != "" or None in steps or len(steps) > Log.STEPS:
        return None
    return name, steps
