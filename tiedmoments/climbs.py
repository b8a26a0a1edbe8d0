"""Papers, and climbs: what shows the least moment of a condition within which a point lies."""

from tiedmoments.conditions import all_hold, check, clause_holds, held_pairs, names_in, parting
from tiedmoments.errors import InvalidPoint, Parted
from tiedmoments.moments import first_moment, is_moment, is_point, places_of, unsent, with_place
from tiedmoments.words import is_number


class Paper:
    """Something that can be checked by itself; this one shows nothing."""

    WORD = "open"

    def told(self):
        """What the paper tells, in words."""
        return self.WORD

    def holds(self):
        """Whether the paper is right."""
        return False

    def __bool__(self):
        return False

    def __repr__(self):
        return f"Paper({self.told()})"


class Climb(Paper):
    """Turns that lead from a point to the least moment of a condition within which it lies, or beyond a row."""

    WORD = "climb"

    def __init__(self, log, condition, point, turns):
        self.log = log
        self.condition = condition
        self.point = copied(point)
        self._turns = list_of(turns)

    def turns(self):
        """The list of the turns."""
        return copied(self._turns)

    def end(self):
        """The moment to which the turns lead, or None if one of them is wrong or leads beyond a row."""
        last = self._last_point()
        return last if is_moment(self.log, last) else None

    def told(self):
        """The word climb and the places of the end."""
        end = self.end()
        if end is None:
            return f"{self.WORD} to nothing"
        places = " ".join([str(place) for place in end])
        return f"{self.WORD} to {places}"

    def holds(self):
        """Whether all turns are right and lead beyond a row or to a moment at which the condition holds."""
        last = self._last_point()
        if last is None:
            return False
        if not is_point(self.log, last):
            return True
        return is_moment(self.log, last) and all_hold(self.log, self.condition, places_of(self.log, last))

    def __bool__(self):
        return True

    def _last_point(self):
        """Where the turns lead, perhaps beyond a row, or None if the point or a turn is wrong."""
        if not is_point(self.log, self.point) or not isinstance(self._turns, list):
            return None
        slope = Slope(self.log, self.condition)
        last = self.point
        for turn in self._turns:
            if not slope.is_right(turn, last):
                return None
            last = slope.point_behind(turn, last)
        return last


class Slope:
    """What forces the points of a log up to the moments of a condition of which no clause is parted."""

    def __init__(self, log, condition):
        self._log = log
        self._condition = condition
        self._held = [held_pairs(log, clause) if clause[0] == "pair" else {} for clause in condition]

    def point_behind(self, turn, point):
        """The point after a turn."""
        at, process, place = turn
        return with_place(self._log, point, process, place)

    def is_right(self, turn, point):
        """Whether any value is a turn that may be done at a point, which may lie beyond a row."""
        # Behind a turn beyond a row none may stand.
        if not is_point(self._log, point) or not self._is_turn(turn):
            return False
        at, process, place = turn
        places = places_of(self._log, point)
        if not is_number(place, places[process] + 1, self._beyond(process)):
            return False
        if at == -1:
            return (process, place - 1) in unsent(self._log, point)
        forced = self._forced_place(at, process, places)
        # A tie and a ceiling force a process to just one place, the other clauses to those on the way, too.
        if self._condition[at][0] in ("tie", "ceiling"):
            return place == forced
        return place <= forced

    def turns_from(self, point):
        """The turns that lead from a point to the least moment within which it lies, or beyond a row."""
        turns = []
        turn = self._next_turn(point)
        while turn is not None:
            turns.append(turn)
            point = self.point_behind(turn, point)
            turn = self._next_turn(point)
        return turns

    def _is_turn(self, value):
        if not isinstance(value, tuple) or len(value) != 3:
            return False
        return is_number(value[0], -1, len(self._condition) - 1) and value[1] in self._log

    def _beyond(self, process):
        """The place that no moment has: one more than the length of the row."""
        return len(self._log.row(process)) + 1

    def _next_turn(self, point):
        """A turn that may be done at a point, or None."""
        if not is_point(self._log, point):
            return None
        missing = unsent(self._log, point)
        if missing != []:
            process, index = missing[0]
            return (-1, process, index + 1)
        places = places_of(self._log, point)
        for at, clause in enumerate(self._condition):
            for process in names_in(clause):
                forced = self._forced_place(at, process, places)
                if forced > places[process]:
                    return (at, process, forced)
        return None

    def _forced_place(self, at, process, places):
        """The greatest place to which a clause forces a process; the present one, or less, if it forces it to none."""
        clause = self._condition[at]
        if process not in names_in(clause):
            return 0
        if clause[0] == "pair":
            return self._least_held(at, process, places)
        # A lead and a tie force the process that they name last, as the other one cannot go back.
        if process != names_in(clause)[-1]:
            return 0
        place = places[process]
        while place < self._beyond(process) and not clause_holds(self._log, clause, {**places, process: place}):
            place += 1
        return place

    def _least_held(self, at, process, places):
        """The least place of a process in the pairs of a pair clause that can still be reached."""
        kind, first, second, pairs = self._condition[at]
        side = 0 if process == first else 1
        reached = [pair[side] for pair in self._held[at] if pair[0] >= places[first] and pair[1] >= places[second]]
        return min(reached, default=self._beyond(process))


def climb(log, condition, point=None):
    """A climb from a point, or from the first moment, that holds."""
    check_closed(log, condition)
    if point is None:
        point = first_moment(log)
    if not is_point(log, point):
        raise InvalidPoint(point)
    return Climb(log, condition, point, Slope(log, condition).turns_from(point))


def check_closed(log, condition):
    """Raises an error unless a value is a condition that fits a log and has no parted clause."""
    check(log, condition)
    for at, clause in enumerate(condition):
        shown = parting(log, clause)
        if shown is not None:
            one, other = shown
            raise Parted(at, one, other)


def copied(value):
    """Any value with new lists in the place of its lists."""
    if isinstance(value, list):
        return [copied(item) for item in value]
    if isinstance(value, tuple):
        return tuple([copied(item) for item in value])
    return value


def list_of(value):
    """A list for a list or a tuple, any other value as it is; lists in it are copied."""
    return list(copied(value)) if isinstance(value, (list, tuple)) else value
