"""Tracers: a log that grows, conditions by name, and the history of both."""

from tiedmoments.conditions import check, read_condition
from tiedmoments.errors import DuplicateName, Full, InvalidCommand, InvalidLimit, InvalidName, NothingLeft, UnknownName
from tiedmoments.logs import Log
from tiedmoments.lots import lot_of
from tiedmoments.words import is_name, is_number

# The number of the items of each command.
COMMANDS = {"process": 2, "step": 3, "watch": 3, "change": 3, "drop": 2, "rename": 3}


class Tracer:
    """A log that grows and conditions on its moments, the watches."""

    MOST = 12

    def __init__(self, log=None, *, limit=8):
        self._log = Log() if log is None else log
        # This dict is never changed, only replaced: the history and twins share it.
        self._watches = {}
        self._earlier = []
        self._later = []
        self._kept = {}
        self._computed = 0
        self._busy = False
        self.limit = limit

    @property
    def present(self):
        """The log as it is now."""
        return self._log

    @property
    def limit(self):
        """How many watches there may be."""
        return self._limit

    @limit.setter
    def limit(self, value):
        if not is_number(value, max(1, len(self._watches)), self.MOST):
            raise InvalidLimit(value)
        self._limit = value

    @property
    def computed(self):
        """How many lots were computed."""
        return self._computed

    @property
    def busy(self):
        """Whether commands are being done."""
        return self._busy

    def set_limit(self, value):
        """Sets how many watches there may be."""
        self.limit = value

    def apply(self, *commands):
        """Does all commands, as one step of the history, or none of them."""
        for at, command in enumerate(commands):
            if not _is_command(command):
                raise InvalidCommand(at)
        if len(commands) == 0:
            return
        self._busy = True
        try:
            log, watches = self._log, self._watches
            for command in commands:
                log, watches = _state_behind(log, watches, self._limit, command)
            self._earlier.append((self._log, self._watches))
            self._later = []
            self._move(log, watches)
        finally:
            self._busy = False

    def undo(self):
        """Undoes the last step of the history."""
        if len(self._earlier) == 0:
            raise NothingLeft()
        self._later.append((self._log, self._watches))
        log, watches = self._earlier.pop()
        self._move(log, watches)

    def redo(self):
        """Does the last step again that was undone."""
        if len(self._later) == 0:
            raise NothingLeft()
        self._earlier.append((self._log, self._watches))
        log, watches = self._later.pop()
        self._move(log, watches)

    def history(self):
        """The pair of the numbers of steps that can be undone and redone."""
        return len(self._earlier), len(self._later)

    def names(self):
        """The ascending list of the names of the watches."""
        return sorted(self._watches)

    def condition_of(self, name):
        """The condition of a watch."""
        _check_known(self._watches, name)
        return self._watches[name]

    def lot_for(self, name):
        """The lot of the condition of a watch, which is kept."""
        condition = self.condition_of(name)
        if name not in self._kept:
            self._kept[name] = lot_of(self._log, condition)
            self._computed += 1
        return self._kept[name]

    def kept(self):
        """The ascending list of the names whose lots are kept."""
        return sorted(self._kept)

    def watches(self):
        """A generator of the pairs (name, condition), ascending."""
        known = self._watches
        for name in sorted(known):
            yield name, known[name]

    def twin(self):
        """An independent tracer in the same state."""
        other = Tracer(self._log, limit=self._limit)
        other._watches = self._watches
        other._earlier = list(self._earlier)
        other._later = list(self._later)
        other._kept = dict(self._kept)
        other._computed = self._computed
        return other

    def __contains__(self, name):
        return name in list(self._watches)

    def __eq__(self, other):
        return isinstance(other, Tracer) and self._log == other._log and self._watches == other._watches

    def __len__(self):
        return len(self._watches)

    def __bool__(self):
        return True

    def __repr__(self):
        return f"Tracer({len(self._watches)} watches, {len(self._log)} steps)"

    def _move(self, log, watches):
        """Makes a log and watches the present ones; lots of which neither has changed stay kept."""
        kept = self._kept if log == self._log else {}
        self._kept = {name: lot for name, lot in kept.items() if watches.get(name) == self._watches[name]}
        self._log = log
        self._watches = watches


def tracer_of(log, watches):
    """A tracer with the greatest limit, without history, with a log and a dict of watches that fit it."""
    tracer = Tracer(log, limit=Tracer.MOST)
    tracer._watches = {name: watches[name] for name in watches}
    return tracer


def _is_command(value):
    if not isinstance(value, tuple) or len(value) == 0 or not isinstance(value[0], str):
        return False
    return len(value) == COMMANDS.get(value[0])


def _state_behind(log, watches, limit, command):
    """The log and the watches behind a command."""
    word, first, *rest = command
    if word == "process":
        return log.with_process(first), watches
    if word == "step":
        return log.with_step(first, rest[0]), watches
    if word == "watch":
        _check_fresh(watches, first)
        if len(watches) >= limit:
            raise Full(limit)
        return log, {**watches, first: _condition_for(log, rest[0])}
    _check_known(watches, first)
    if word == "change":
        return log, {**watches, first: _condition_for(log, rest[0])}
    left = {name: condition for name, condition in watches.items() if name != first}
    if word == "drop":
        return log, left
    _check_fresh(watches, rest[0])
    return log, {**left, rest[0]: watches[first]}


def _condition_for(log, text):
    """The condition with a text, which must fit a log."""
    condition = read_condition(text)
    check(log, condition)
    return condition


def _check_fresh(watches, name):
    if not is_name(name):
        raise InvalidName(name)
    if name in watches:
        raise DuplicateName(name)


def _check_known(watches, name):
    # A value that is no name may be a list, which is no key.
    if name not in list(watches):
        raise UnknownName(name)
