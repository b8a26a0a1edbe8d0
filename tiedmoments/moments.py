"""Points and moments of a log: how far each process has come."""

from tiedmoments.errors import InvalidPoint, UnknownStep
from tiedmoments.logs import are_places
from tiedmoments.words import is_number


def is_point(log, value):
    """Whether any value is a point of a log."""
    return are_places(value, log.lengths())


def is_moment(log, value):
    """Whether any value is a moment: a point in which no message is received that is not sent."""
    return is_point(log, value) and unsent(log, value) == []


def first_moment(log):
    """The moment that has no step."""
    return tuple([0 for name in log.processes()])


def last_moment(log):
    """The moment that has all steps."""
    return log.lengths()


def past(log, step):
    """The least moment that has a step."""
    check_step(log, step)
    return pasts(log)[step]


def is_ahead(log, one, other):
    """Whether one step is different from the other one and each moment that has the other one has it."""
    check_step(log, one)
    check_step(log, other)
    return one != other and has(places_of(log, past(log, other)), one)


def meet_of(log, *points):
    """The point with the least place of each process."""
    check_points(log, points)
    met = last_moment(log)
    for point in points:
        met = lesser(met, point)
    return met


def join_of(log, *points):
    """The point with the greatest place of each process."""
    check_points(log, points)
    joined = first_moment(log)
    for point in points:
        joined = greater(joined, point)
    return joined


def moments(log):
    """A generator of all moments, in order."""
    known = pasts(log)
    level = [first_moment(log)]
    while level:
        yield from level
        level = _next_level(log, known, level)


def places_of(log, point):
    """The places of a point by the names of the processes."""
    return dict(zip(log.processes(), point))


def has(places, step):
    """Whether the places are those of a point that has a step."""
    process, index = step
    return places[process] > index


def with_place(log, point, process, place):
    """The point with another place of one process."""
    return tuple([place if name == process else old for name, old in zip(log.processes(), point)])


def lesser(one, other):
    """The meet of two points."""
    return tuple([min(first, second) for first, second in zip(one, other)])


def greater(one, other):
    """The join of two points."""
    return tuple([max(first, second) for first, second in zip(one, other)])


def lies_within(one, other):
    """Whether each place of one point is at most that of the other one."""
    return all([first <= second for first, second in zip(one, other)])


def letters(log):
    """The pairs (sending step, receiving step) of the messages that are received."""
    deeds = [((name, index), step[2]) for name, row in log.rows() for index, step in enumerate(row)]
    senders = {deed[1]: step for step, deed in deeds if deed is not None and deed[0] == "send"}
    return [(senders[deed[1]], step) for step, deed in deeds if deed is not None and deed[0] == "receive"]


def unsent(log, point):
    """The steps that a point does not have, though it has steps that receive what they send."""
    places = places_of(log, point)
    return [sender for sender, receiver in letters(log) if has(places, receiver) and not has(places, sender)]


def pasts(log):
    """The past of each step, by the pairs that name the steps."""
    senders = {receiver: sender for sender, receiver in letters(log)}
    first = first_moment(log)
    found = {}
    for process, index, step in log.order():
        before = found.get((process, index - 1), first)
        if (process, index) in senders:
            before = greater(before, found[senders[(process, index)]])
        found[(process, index)] = with_place(log, before, process, index + 1)
    return found


def _next_level(log, known, level):
    """The moments that have one step more than those of a level, ascending."""
    names = log.processes()
    found = {}
    for moment in level:
        for process, place in zip(names, moment):
            point = with_place(log, moment, process, place + 1)
            if (process, place) in known and lies_within(known[(process, place)], point):
                found[point] = True
    return sorted(found)


def check_step(log, step):
    """Raises an error unless a value names a step of a log."""
    if not is_step_of(log, step):
        raise UnknownStep(step)


def is_step_of(log, value):
    """Whether any value is a pair of a process of a log and an index of its row."""
    if not isinstance(value, tuple) or len(value) != 2 or value[0] not in log:
        return False
    process, index = value
    return is_number(index, 0, len(log.row(process)) - 1)


def check_points(log, points):
    """Raises an error unless all values are points of a log."""
    for point in points:
        if not is_point(log, point):
            raise InvalidPoint(point)
