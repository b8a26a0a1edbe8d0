"""Courses: stretches of tests, and whether every course of a lot passes a moment at which all tests hold."""

from tiedmoments.climbs import Paper, copied, list_of
from tiedmoments.conditions import clause_holds, is_clause
from tiedmoments.errors import InvalidTests, UnknownProcess
from tiedmoments.lots import check_filled, way
from tiedmoments.moments import greater, has, lies_within, places_of
from tiedmoments.words import START, is_number

MANY = 6


class Sure(Paper):
    """A stretch of each test that shows that every course of a lot passes a moment at which all tests hold."""

    WORD = "sure"

    def __init__(self, lot, tests, stretches):
        self.lot = lot
        self.tests = copied(tests)
        self._stretches = list_of(stretches)

    def stretches(self):
        """The list of the stretches."""
        return copied(self._stretches)

    def holds(self):
        """Whether these are stretches of the tests and each two of them overlap surely."""
        return bool(self.lot) and are_tests(self.lot.log, self.tests) and overlap(self.lot, self.tests, self._stretches)

    def __bool__(self):
        return True


class Avoid(Paper):
    """A course of a lot that passes no moment at which all tests hold."""

    WORD = "avoid"

    def __init__(self, lot, tests, course):
        self.lot = lot
        self.tests = copied(tests)
        self._course = list_of(course)

    def course(self):
        """The list of the moments."""
        return copied(self._course)

    def holds(self):
        """Whether this is a course of the lot and at none of its moments all tests hold."""
        if not are_tests(self.lot.log, self.tests) or not _is_course(self.lot, self._course):
            return False
        return not any([_all_hold(self.lot.log, self.tests, moment) for moment in self._course])

    def __bool__(self):
        return False


def check_tests(log, tests):
    """Raises an error unless a value is tests of processes of a log."""
    if not isinstance(tests, tuple) or not 1 <= len(tests) <= MANY:
        raise InvalidTests(-1)
    names = []
    for at, test in enumerate(tests):
        if not is_clause(test) or test[0] != "at" or test[1] in names:
            raise InvalidTests(at)
        names.append(test[1])
    for name in names:
        if name not in log:
            raise UnknownProcess(name)


def stretches(lot, test):
    """The ascending list of the stretches of a test."""
    check_tests(lot.log, (test,))
    return _stretches_of(lot, test)


def opposite(test, log):
    """The test of the same process that holds just where a test does not hold, or None if there is no such place."""
    check_tests(log, (test,))
    kind, process, marks = test
    others = [mark for mark in [START, *[step[0] for step in log.row(process)]] if mark not in marks]
    return ("at", process, tuple(sorted(set(others)))) if others != [] else None


def every(lot, tests):
    """A Sure if every course of a lot passes a moment at which all tests hold, and otherwise an Avoid."""
    check_tests(lot.log, tests)
    check_filled(lot)
    found, course, left = chase(lot, tests)
    return Avoid(lot, tests, course) if found is None else Sure(lot, tests, found)


def are_tests(log, value):
    """Whether any value is tests of processes of a log."""
    try:
        check_tests(log, value)
    except (InvalidTests, UnknownProcess):
        return False
    return True


def overlap(lot, tests, value):
    """Whether any value is a list with a stretch of each test, in order, of which each two overlap surely."""
    if not isinstance(value, list) or len(value) != len(tests):
        return False
    if not all([_is_stretch(lot, test, item) for test, item in zip(tests, value)]):
        return False
    return all([_begins_in_time(lot, one, other) for one in value for other in value if one != other])


def chase(lot, tests):
    """A stretch of each test such that each two overlap surely, or None; a course; and which steps it parts.

    Without such stretches the course passes no moment at which all tests hold. It parts pairs of steps: the first one
    would begin a stretch, and is not made ahead of the second one, which ends a stretch of another test.
    """
    rest = [_stretches_of(lot, test) for test in tests]
    course = [lot.least]
    parted = []
    pair = _next_pair(lot, rest, lot.least)
    while pair is not None:
        late, early = pair
        end = _end_of(lot, rest[early][0])
        parted.append((_begin_of(lot, rest[late][0]), end))
        course = course + way(lot, course[-1], greater(course[-1], lot.need(end)))
        rest[early] = rest[early][1:]
        pair = _next_pair(lot, rest, course[-1])
    if [] in rest:
        return None, course + way(lot, course[-1], lot.greatest), parted
    return [row[0] for row in rest], course, parted


def _stretches_of(lot, test):
    """The stretches of a test that is right: the longest rows of places at which it holds."""
    kind, process, marks = test
    rows = [[]]
    for place in lot.places(process):
        if clause_holds(dict(lot.log.rows()), test, {process: place}):
            rows[-1].append(place)
        else:
            rows.append([])
    return [(process, row[0], row[-1]) for row in rows if row != []]


def _is_stretch(lot, test, value):
    if not isinstance(value, tuple) or len(value) != 3:
        return False
    length = len(lot.log.row(test[1]))
    return is_number(value[1], 0, length) and is_number(value[2], 0, length) and value in _stretches_of(lot, test)


def _begin_of(lot, stretch):
    """The step with whose block a stretch begins, or None if it begins at once."""
    process, first, last = stretch
    return (process, first - 1) if first > places_of(lot.log, lot.least)[process] else None


def _end_of(lot, stretch):
    """The step with whose block a stretch ends, or None if it never ends."""
    process, first, last = stretch
    return (process, last) if last < places_of(lot.log, lot.greatest)[process] else None


def _begins_in_time(lot, one, other):
    """Whether a stretch surely begins before another one ends."""
    begin = _begin_of(lot, one)
    end = _end_of(lot, other)
    return begin is None or end is None or _is_block_ahead(lot, begin, end)


def _is_block_ahead(lot, one, other):
    """Whether the block with one free step is ahead of the block with another one."""
    need = lot.need(other)
    return lot.need(one) != need and has(places_of(lot.log, need), one)


def _next_pair(lot, rest, moment):
    """The indexes of two tests: the first stretch of one, not begun, may be begun when that of the other is over.

    None if there are no such two, or if a test has no stretch any more.
    """
    if [] in rest:
        return None
    for late, row in enumerate(rest):
        begin = _begin_of(lot, row[0])
        if begin is not None and not has(places_of(lot.log, moment), begin):
            for early, other in enumerate(rest):
                if early != late and not _begins_in_time(lot, row[0], other[0]):
                    return late, early
    return None


def _is_course(lot, value):
    """Whether any value is a course of a lot."""
    if not isinstance(value, list) or value == [] or not all([moment in lot for moment in value]):
        return False
    if value[0] != lot.least or value[-1] != lot.greatest:
        return False
    return all([_is_next(lot, one, other) for one, other in zip(value, value[1:])])


def _is_next(lot, one, other):
    """Whether a moment of a lot has the steps of just one block more than another one."""
    places = places_of(lot.log, one)
    reached = places_of(lot.log, other)
    new = [block for block in lot.blocks() if has(reached, block[0]) and not has(places, block[0])]
    return lies_within(one, other) and len(new) == 1


def _all_hold(log, tests, moment):
    rows = dict(log.rows())
    return all([clause_holds(rows, test, places_of(log, moment)) for test in tests])
