"""Papers, and climbs: what shows the least moment of a condition within which a point lies."""

from tiedmoments.conditions import all_hold, check, clause_holds, held_pairs, names_in, parting
from tiedmoments.errors import InvalidPoint, Parted
from tiedmoments.moments import first_moment, is_moment, is_point, places_of, unsent, with_place
from tiedmoments.words import is_number


class Paper:
    """Something that can be checked by itself; this one shows nothing."""

    WORD = "open"

    def told(self):
        """What the paper tells, in words."""
        return self.WORD

    def holds(self):
        """Whether the paper is right."""
        return False

    def __bool__(self):
        return False

    def __repr__(self):
        return f"Paper({self.told()})"


class Climb(Paper):
    """Turns that lead from a point to the least moment of a condition within which it lies, or beyond a row."""

    WORD = "climb"

    def __init__(self, log, condition, point, turns):
        self.log = log
        self.condition = condition
        self.point = copied(point)
        self._turns = list_of(turns)

    def turns(self):
        """The list of the turns."""
        return copied(self._turns)

    def end(self):
        """The moment to which the turns lead, or None if one of them is wrong or leads beyond a row."""
        last = _last_point(self.log, self.condition, self.point, self._turns)
        return last if is_moment(self.log, last) else None

    def told(self):
        """The word climb and the places of the end."""
        end = self.end()
        if end is None:
            return f"{self.WORD} to nothing"
        places = " ".join([str(place) for place in end])
        return f"{self.WORD} to {places}"

    def holds(self):
        """Whether all turns are right and lead beyond a row or to a moment at which the condition holds."""
        last = _last_point(self.log, self.condition, self.point, self._turns)
        if last is None:
            return False
        if not is_point(self.log, last):
            return True
        return is_moment(self.log, last) and all_hold(self.log, self.condition, places_of(self.log, last))

    def __bool__(self):
        return True


def climb(log, condition, point=None):
    """A climb from a point, or from the first moment, that holds."""
    check_closed(log, condition)
    if point is None:
        point = first_moment(log)
    if not is_point(log, point):
        raise InvalidPoint(point)
    return Climb(log, condition, point, _turns_from(log, condition, point))


def check_closed(log, condition):
    """Raises an error unless a value is a condition that fits a log and has no parted clause."""
    check(log, condition)
    for at, clause in enumerate(condition):
        shown = parting(log, clause)
        if shown is not None:
            one, other = shown
            raise Parted(at, one, other)


def slopes_of(log, condition):
    """What forces processes up: each clause, and of a pair clause the pairs of places at which it holds."""
    return [(clause, held_pairs(log, clause) if clause[0] == "pair" else {}) for clause in condition]


def forced_point(log, slopes, point):
    """The point up to which the clauses force the processes at once, perhaps beyond a row."""
    places = places_of(log, point)
    return tuple([max([place, *[forced_place(log, slope, name, places) for slope in slopes]])
                  for name, place in places.items()])


def forced_place(log, slope, process, places):
    """The greatest place to which a clause forces a process; the present one, or less, if it forces it to none."""
    clause, held = slope
    names = names_in(clause)
    if process not in names:
        return 0
    if clause[0] == "pair":
        return _least_held(log, slope, process, places)
    # A lead and a tie force the process that they name last, as the other one cannot go back.
    if process != names[-1]:
        return 0
    rows = dict(log.rows())
    beyond = _beyond(log, process)
    place = places[process]
    while place < beyond and not clause_holds(rows, clause, {**places, process: place}):
        place = place + 1
    return place


def copied(value):
    """Any value with new lists in the place of its lists."""
    if isinstance(value, list):
        return [copied(item) for item in value]
    if isinstance(value, tuple):
        return tuple([copied(item) for item in value])
    return value


def list_of(value):
    """A list for a list or a tuple, any other value as it is; lists in it are copied."""
    return list(copied(value)) if isinstance(value, (list, tuple)) else value


def _last_point(log, condition, point, turns):
    """Where turns lead from a point, perhaps beyond a row, or None if the point or a turn is wrong."""
    # The repr of a climb runs this: nothing that is called here may store anything or raise an error.
    if not is_point(log, point) or not isinstance(turns, list):
        return None
    slopes = slopes_of(log, condition)
    for turn in turns:
        if not _is_right(log, slopes, turn, point):
            return None
        point = _point_behind(log, turn, point)
    return point


def _point_behind(log, turn, point):
    """The point after a turn."""
    at, process, place = turn
    return with_place(log, point, process, place)


def _is_right(log, slopes, turn, point):
    """Whether any value is a turn that may be done at a point, which may lie beyond a row."""
    # Behind a turn beyond the row none may stand.
    if not is_point(log, point) or not _is_turn(log, slopes, turn):
        return False
    at, process, place = turn
    places = places_of(log, point)
    if not is_number(place, places[process] + 1, _beyond(log, process)):
        return False
    if at == -1:
        return (process, place - 1) in unsent(log, point)
    clause, held = slopes[at]
    forced = forced_place(log, slopes[at], process, places)
    # A tie and a ceiling force a process to just one place, the other clauses to those on the way, too.
    if clause[0] in ("tie", "ceiling"):
        return place == forced
    return place <= forced


def _is_turn(log, slopes, value):
    if not isinstance(value, tuple) or len(value) != 3:
        return False
    return is_number(value[0], -1, len(slopes) - 1) and value[1] in log


def _beyond(log, process):
    """The place that no moment has: one more than the length of the row."""
    return places_of(log, log.lengths())[process] + 1


def _turns_from(log, condition, point):
    """The turns that lead from a point to the least moment within which it lies, or beyond a row."""
    slopes = slopes_of(log, condition)
    turns = []
    turn = _next_turn(log, slopes, point)
    while turn is not None:
        turns.append(turn)
        point = _point_behind(log, turn, point)
        turn = _next_turn(log, slopes, point)
    return turns


def _next_turn(log, slopes, point):
    """A turn that may be done at a point, or None."""
    if not is_point(log, point):
        return None
    missing = unsent(log, point)
    if missing != []:
        process, index = missing[0]
        return (-1, process, index + 1)
    places = places_of(log, point)
    for at, slope in enumerate(slopes):
        for process in names_in(slope[0]):
            forced = forced_place(log, slope, process, places)
            if forced > places[process]:
                return (at, process, forced)
    return None


def _least_held(log, slope, process, places):
    """The least place of a process in the pairs of a pair clause that can still be reached."""
    (kind, first, second, pairs), held = slope
    side = 0 if process == first else 1
    reached = [pair[side] for pair in held if pair[0] >= places[first] and pair[1] >= places[second]]
    return min(reached, default=_beyond(log, process))
