"""Lots: sets of moments that have the meet and the join of each two of them."""

from tiedmoments.climbs import check_closed, forced_point, slopes_of
from tiedmoments.errors import EmptyLot, InvalidNumber, UnknownProcess, UnlikeLogs
from tiedmoments.moments import check_points, check_step, first_moment, greater, is_point, lesser, lies_within, pasts
from tiedmoments.moments import places_of, with_place
from tiedmoments.words import is_number

MANY = 5000


class Lot:
    """A set of moments, known by its least one and by the needs of the steps that are not shut; it never changes."""

    def __init__(self, log, least, needs):
        # No property: climbs store an attribute of this name, which a property without a setter would bar.
        self.log = log
        self._least = least
        self._needs = needs
        self._greatest = _join(least, list(needs.values()))
        self._blocks = _blocks_of(log, least, needs)
        self._sizes = {needs[block[0]]: len(block) for block in self._blocks}

    @property
    def least(self):
        """The least moment, or None for the empty lot."""
        return self._least

    @property
    def greatest(self):
        """The greatest moment, or None for the empty lot."""
        return self._greatest

    def need(self, step):
        """The least moment that has a step, or None for a shut step."""
        check_step(self.log, step)
        return self._needs.get(step)

    def above(self, point):
        """The least moment within which a point lies, or None."""
        check_points(self.log, [point])
        if self._least is None:
            return None
        return _lifted(self.log, self._needs, greater(self._least, point))

    def below(self, point):
        """The greatest moment that lies within a point, or None."""
        check_points(self.log, [point])
        if self._least is None or not lies_within(self._least, point):
            return None
        return _join(self._least, [need for need in self._needs.values() if lies_within(need, point)])

    def moments(self):
        """A generator of all moments, in order."""
        if self._least is None:
            return
        waiting = {sum(self._least): {self._least: True}}
        for size in range(sum(self._least), sum(self._greatest) + 1):
            level = sorted(waiting.pop(size, {}))
            yield from level
            for moment in level:
                for higher in self._next_moments(moment):
                    waiting.setdefault(sum(higher), {})[higher] = True

    def many(self, most=1000):
        """The number of moments, or None if there are more than most."""
        if not is_number(most, 0, MANY):
            raise InvalidNumber(most)
        count = 0
        for _ in self.moments():
            count += 1
            if count > most:
                return None
        return count

    def blocks(self):
        """The list of the blocks, ascending by their needs as moments do."""
        return list(self._blocks)

    def places(self, process):
        """The ascending list of the places that a process has at the moments."""
        if process not in self.log:
            raise UnknownProcess(process)
        return sorted(set([places_of(self.log, moment)[process] for moment in self._corners()]))

    def ties(self):
        """The condition of floors, ceilings and ties that holds just at these moments."""
        if self._least is None:
            raise EmptyLot()
        names = self.log.processes()
        floors = [("floor", name, place) for name, place in zip(names, self._least) if place > 0]
        ceilings = [("ceiling", name, place)
                    for name, place, length in zip(names, self._greatest, self.log.lengths()) if place < length]
        known = pasts(self.log)
        between = [tie for step in free_steps(self) for tie in self._ties_of(step, known[step])]
        return tuple([*floors, *ceilings, *between])

    def walk(self):
        """A generator of the moments of a course, each time the first one that has just one block more."""
        if self._least is None:
            raise EmptyLot()
        moment = self._least
        yield moment
        while moment != self._greatest:
            moment = min(self._next_moments(moment), key=_size_and_places)
            yield moment

    def beyond(self, other):
        """The first moment, in order, that is not in another lot, or None."""
        _check_like(self, other)
        # A moment that is not in the other lot has a corner within it that is not in the other lot either.
        outside = [moment for moment in self._corners() if moment not in other]
        return min(outside, key=_size_and_places, default=None)

    def is_within(self, other):
        """Whether each moment is in another lot, too."""
        return self.beyond(other) is None

    def __and__(self, other):
        _check_like(self, other)
        if self._least is None or other._least is None:
            return Lot(self.log, None, {})
        forced = {step: greater(need, other._needs[step]) for step, need in self._needs.items() if step in other._needs}
        return _lot_from(self.log, greater(self._least, other._least), forced)

    def __or__(self, other):
        _check_like(self, other)
        if self._least is None:
            return other
        if other._least is None:
            return self
        needs = {step: lesser(need, other._needs.get(step, need)) for step, need in self._needs.items()}
        more = {step: need for step, need in other._needs.items() if step not in needs}
        return Lot(self.log, lesser(self._least, other._least), {**needs, **more})

    def __eq__(self, other):
        return (isinstance(other, Lot) and self.log == other.log and self._least == other._least
                and self._needs == other._needs)

    def __contains__(self, moment):
        if self._least is None or not is_point(self.log, moment) or not lies_within(self._least, moment):
            return False
        # A need has the past of its step, so a point that has the needs of its steps is a moment.
        needs = [self._needs.get(step) for step in _last_steps(self.log, moment)]
        return all([need is not None and lies_within(need, moment) for need in needs])

    def __bool__(self):
        return bool(self._least is not None)

    def __repr__(self):
        if self._least is None:
            return "Lot(empty)"
        return f"Lot({len(self._blocks)} blocks)"

    def _corners(self):
        """The least moment and all needs: each moment is a join of some of them."""
        return [self._least, *list(self._needs.values())] if self._least is not None else []

    def _next_moments(self, moment):
        """The moments that have just one block more than a moment."""
        # Such a block has the next step of a process; the need of that one may have other blocks, too.
        needs = [self._needs[step] for step in zip(self.log.processes(), moment) if step in self._needs]
        joins = [(greater(moment, need), self._sizes[need]) for need in needs]
        return sorted(set([higher for higher, size in joins if sum(higher) - sum(moment) == size]))

    def _ties_of(self, step, known):
        """The ties from a free step with this past."""
        rows = list(zip(self.log.processes(), self._needs[step], known, self._least))
        return [("tie", step, (name, place - 1)) for name, place, old, least in rows if place > max(old, least)]


def lot_of(log, condition):
    """The lot of the moments at which a condition holds."""
    check_closed(log, condition)
    slopes = slopes_of(log, condition)
    first = first_moment(log)
    forced = {}
    for step, known in pasts(log).items():
        process, index = step
        point = with_place(log, first, process, index + 1)
        forced[step] = greater(known, forced_point(log, slopes, point))
    return _lot_from(log, forced_point(log, slopes, first), forced)


def whole_lot(log):
    """The lot of all moments."""
    return Lot(log, first_moment(log), pasts(log))


def empty_lot(log):
    """The lot without moments."""
    return Lot(log, None, {})


def check_filled(lot):
    """Raises an error if a lot has no moment."""
    if not lot:
        raise EmptyLot()


def way(lot, moment, target):
    """Moments that lead from a moment of a lot, which is left out, to a greater one, each with one block more."""
    found = []
    for block in lot.blocks():
        need = lot.need(block[0])
        if lies_within(need, target) and not lies_within(need, moment):
            moment = greater(moment, need)
            found.append(moment)
    return found


def free_steps(lot):
    """The list of the free steps, by processes and indexes."""
    return [step for step in _steps_in(lot.log) if _is_free(lot.least, lot._needs, step)]


def _lot_from(log, start, forced):
    """The lot of the moments above a point which have the points that their steps force; other steps are shut."""
    least = _lifted(log, forced, start)
    if least is None:
        return Lot(log, None, {})
    needs = {step: _lifted(log, forced, greater(least, point)) for step, point in forced.items()}
    return Lot(log, least, {step: need for step, need in needs.items() if need is not None})


def _lifted(log, forced, point):
    """The least point above one that has all that its steps force, or None if it has a step that forces nothing."""
    lower = None
    while point != lower:
        lower = point
        steps = _last_steps(log, point)
        # A point that lies beyond a row has such a step, too.
        if not all([step in forced for step in steps]):
            return None
        point = _join(point, [forced[step] for step in steps])
    return point


def _join(point, others):
    """The join of points; None if there is no first one."""
    for other in others:
        point = greater(point, other)
    return point


def _last_steps(log, point):
    """The last step of each process that a point has; it forces no less than those ahead of it."""
    return [(name, place - 1) for name, place in zip(log.processes(), point) if place > 0]


def _steps_in(log):
    """The pairs that name the steps of a log, by processes and indexes."""
    return [(name, index) for name, row in log.rows() for index in range(len(row))]


def _is_free(least, needs, step):
    """Whether a step of a lot with this least moment and these needs is neither shut nor given."""
    return step in needs and needs[step] != least


def _blocks_of(log, least, needs):
    """The blocks of a lot: the free steps with equal needs."""
    free = [step for step in _steps_in(log) if _is_free(least, needs, step)]
    order = sorted(set([_size_and_places(needs[step]) for step in free]))
    return [tuple([step for step in free if needs[step] == need]) for size, need in order]


def _size_and_places(moment):
    """What moments ascend by when they are in order."""
    return sum(moment), moment


def _check_like(one, other):
    """Raises an error unless a value is a lot of a log that equals that of a lot."""
    if not isinstance(other, Lot) or one.log != other.log:
        raise UnlikeLogs()
