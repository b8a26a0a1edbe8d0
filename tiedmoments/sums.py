"""Sums: totals of moments, and the best moments of a lot with flows that show it."""

from tiedmoments.climbs import Paper, copied, list_of
from tiedmoments.errors import InvalidMoment, InvalidWeights, Uneven
from tiedmoments.lots import check_filled, free_steps, way
from tiedmoments.moments import has, is_moment, is_step_of, places_of
from tiedmoments.words import LEAST, MOST, is_number, is_word


class Best(Paper):
    """A moment of a lot and a flow that shows that no other one has a greater total, or a less one for the lowest."""

    WORD = "best"

    def __init__(self, lot, moment, flow, *, weights=None, lowest=False):
        self.lot = lot
        self.moment = copied(moment)
        self.weights = dict(weights) if isinstance(weights, dict) else weights
        self.lowest = copied(lowest)
        self._flow = list_of(flow)

    def flow(self):
        """The list of the tuples (step, step, amount)."""
        return copied(self._flow)

    def reached(self):
        """The total of the moment, or None if it is no moment of the log."""
        if not is_moment(self.lot.log, self.moment):
            return None
        return _sum_at(self.lot.log, _worth_of(self.lot.log, self.weights), self.moment)

    def told(self):
        """The word best and the total of the moment."""
        reached = self.reached()
        return self.WORD if reached is None else f"{self.WORD} {reached}"

    def holds(self):
        """Whether the flow is right and shows that no moment of the lot is better."""
        if not (self.lowest is True or self.lowest is False) or self.moment not in self.lot:
            return False
        worth = _signed_worth(self.lot.log, self.weights, self.lowest)
        if not _is_flow(self.lot, worth, self._flow):
            return False
        gains = sum([worth[step] for step in free_steps(self.lot) if worth[step] > 0])
        flowing = sum([amount for gain, cost, amount in self._flow])
        least = _sum_at(self.lot.log, worth, self.lot.least)
        return _sum_at(self.lot.log, worth, self.moment) == least + gains - flowing

    def __bool__(self):
        return True


class Network:
    """What flows from the free steps of a lot with weights above 0 to those below 0 that their needs have."""

    def __init__(self, lot, worth):
        free = free_steps(lot)
        needs = {step: places_of(lot.log, lot.need(step)) for step in free}
        costs = [step for step in free if worth[step] < 0]
        self._ahead = {gain: [cost for cost in costs if has(needs[gain], cost)] for gain in free if worth[gain] > 0}
        self._behind = {cost: [gain for gain in self._ahead if cost in self._ahead[gain]] for cost in costs}
        self._left = {step: abs(worth[step]) for step in free}
        self._amounts = {}

    def fill(self):
        """Puts as much through the network as can flow."""
        path = self._path()
        while path != []:
            pairs = list(zip(path, path[1:]))
            # On the way from a cost back to a gain an earlier amount is taken back.
            back = [self._amounts[(gain, cost)] for cost, gain in pairs if cost in self._behind]
            amount = min([self._left[path[0]], self._left[path[-1]], *back])
            self._left[path[0]] -= amount
            self._left[path[-1]] -= amount
            for one, other in pairs:
                change = amount if one in self._ahead else -amount
                pair = (one, other) if one in self._ahead else (other, one)
                self._amounts[pair] = self._amounts.get(pair, 0) + change
            path = self._path()

    def amounts(self):
        """The flow: the list of the tuples (step, step, amount)."""
        pairs = [(gain, cost) for gain in self._ahead for cost in self._ahead[gain]]
        return [(gain, cost, self._amounts[(gain, cost)]) for gain, cost in pairs if self._flows(gain, cost)]

    def open_gains(self):
        """The gains from which more could flow into the network, though none of it comes through."""
        found = self._reached()
        return [gain for gain in self._ahead if gain in found]

    def open_costs(self):
        """The costs from which more could flow out of the network, though none of it comes that far."""
        unpaid = [cost for cost in self._behind if self._left[cost] > 0]
        found = _spread(unpaid, lambda step: self._sources(step))
        return [cost for cost in self._behind if cost in found]

    def _reached(self):
        """For each step to which more could flow, the one ahead of it on the way; None for those where ways begin."""
        unused = [gain for gain in self._ahead if self._left[gain] > 0]
        return _spread(unused, lambda step: self._targets(step))

    def _targets(self, step):
        """The steps to which more could flow from one; what a cost has got can be given back."""
        if step in self._ahead:
            return self._ahead[step]
        return [gain for gain in self._behind[step] if self._flows(gain, step)]

    def _sources(self, step):
        """The steps from which more could flow to one."""
        if step in self._behind:
            return self._behind[step]
        return [cost for cost in self._ahead[step] if self._flows(step, cost)]

    def _flows(self, gain, cost):
        return self._amounts.get((gain, cost), 0) > 0

    def _path(self):
        """The steps of a way on which more can flow from a gain to a cost, or [] if there is none."""
        found = self._reached()
        ends = [step for step in found if step in self._behind and self._left[step] > 0]
        path = ends[:1]
        while path != [] and found[path[0]] is not None:
            path.insert(0, found[path[0]])
        return path


def total(log, moment, *, weights=None):
    """The sum of the weights of the steps that a moment has."""
    if not is_moment(log, moment):
        raise InvalidMoment(moment)
    _check_weights(weights)
    return _sum_at(log, _worth_of(log, weights), moment)


def best(lot, *, weights=None, lowest=False, last=False):
    """A Best that holds, with the least or the greatest of all best moments."""
    check_filled(lot)
    _check_weights(weights)
    network = Network(lot, _signed_worth(lot.log, weights, lowest))
    network.fill()
    if last:
        moment = lot.below(_point_ahead_of(lot, network.open_costs()))
    else:
        moment = lot.above(_point_with(lot, network.open_gains()))
    return Best(lot, moment, network.amounts(), weights=weights, lowest=lowest)


def with_total(lot, number):
    """A moment of a lot with a total, or None if there is none with such a great or such a small one."""
    check_filled(lot)
    worth = _worth_of(lot.log, None)
    for block in lot.blocks():
        if not -1 <= sum([worth[step] for step in block]) <= 1:
            raise Uneven(block)
    lowest = number < _sum_at(lot.log, worth, lot.least)
    target = best(lot, lowest=lowest).moment
    # From each moment to the next one the total changes by 1 at most, so it leaves none out.
    for moment in [lot.least, *way(lot, lot.least, target)]:
        if _sum_at(lot.log, worth, moment) == number:
            return moment
    return None


def _spread(starts, nexts):
    """For each step that can be reached from some, the one ahead of it on the way; None for those themselves."""
    found = {step: None for step in starts}
    queue = list(starts)
    while queue != []:
        step = queue.pop(0)
        for other in nexts(step):
            if other not in found:
                found[other] = step
                queue.append(other)
    return found


def _check_weights(value):
    if value is not None and not _are_weights(value):
        raise InvalidWeights()


def _are_weights(value):
    if not isinstance(value, dict):
        return False
    return all([is_word(word) and is_number(number, LEAST, MOST) for word, number in value.items()])


def _worth_of(log, weights):
    """The weight of each step, by the pairs that name the steps; without weights it is its number."""
    steps = [((name, index), step) for name, row in log.rows() for index, step in enumerate(row)]
    return {pair: step[1] if weights is None else weights.get(step[0], 0) for pair, step in steps}


def _signed_worth(log, weights, lowest):
    """The weight of each step, with the other sign if the lowest is asked for."""
    sign = -1 if lowest else 1
    return {pair: sign * weight for pair, weight in _worth_of(log, weights).items()}


def _sum_at(log, worth, moment):
    places = places_of(log, moment)
    return sum([weight for step, weight in worth.items() if has(places, step)])


def _point_with(lot, steps):
    """The least point above the least moment of a lot that has some steps."""
    places = places_of(lot.log, lot.least)
    reached = [(name, index + 1) for name, index in steps]
    return tuple([max([places[name], *[place for other, place in reached if other == name]]) for name in places])


def _point_ahead_of(lot, steps):
    """The greatest point within the greatest moment of a lot that has none of some steps."""
    places = places_of(lot.log, lot.greatest)
    return tuple([min([places[name], *[index for other, index in steps if other == name]]) for name in places])


def _is_flow(lot, worth, value):
    if not isinstance(value, list) or not all([_is_flowing(lot, worth, item) for item in value]):
        return False
    given = {}
    for gain, cost, amount in value:
        given[gain] = given.get(gain, 0) + amount
        given[cost] = given.get(cost, 0) + amount
    return all([amount <= abs(worth[step]) for step, amount in given.items()])


def _is_flowing(lot, worth, value):
    """Whether any value tells what flows from a free step to one that its need has."""
    if not isinstance(value, tuple) or len(value) != 3:
        return False
    gain, cost, amount = value
    if not is_step_of(lot.log, gain) or not is_step_of(lot.log, cost):
        return False
    free = free_steps(lot)
    if gain not in free or cost not in free or worth[gain] <= 0 or worth[cost] >= 0:
        return False
    return has(places_of(lot.log, lot.need(gain)), cost) and is_number(amount, 1, worth[gain])
