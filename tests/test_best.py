"""Best moments and flows: against all moments of a lot, and papers of which something is changed."""

import itertools
import unittest

from tests.helper import ODD_VALUES, check_error, free_in, has_step, held_moments, join, lots_of_all_kinds, meet
from tests.helper import moments_of, need_in, seeded, small_rows, steps_of
from tests.test_totals import RIGHT_WEIGHTS, WRONG_WEIGHTS, total_of, weights_of
from tiedmoments.climbs import Paper
from tiedmoments.errors import EmptyLot, InvalidWeights
from tiedmoments.logs import Log
from tiedmoments.lots import empty_lot, lot_of, whole_lot
from tiedmoments.sums import Best, best


def weight_in(rows, step, weights, sign):
    mark, number, deed = dict(rows)[step[0]][step[1]]
    return sign * (number if weights is None else weights.get(mark, 0))


def is_flowing(rows, held, item, weight):
    """Whether a value is a tuple of a flow, from its definition; by classes, as True equals 1."""
    if item.__class__ is not tuple or len(item) != 3 or item[2].__class__ is not int:
        return False
    steps = [part for part in item[:2] if part.__class__ is tuple and len(part) == 2 and part[1].__class__ is int]
    free = free_in(rows, held)
    if len(steps) != 2 or not all(step in free for step in steps):
        return False
    gain, cost = steps
    return weight[gain] > 0 > weight[cost] and has_step(rows, need_in(rows, held, gain), cost) and item[2] > 0


def best_holds(rows, held, moment, flow, weights, lowest):
    """Whether a Best paper holds, sentence by sentence."""
    if lowest.__class__ is not bool or flow.__class__ not in (list, tuple):
        return False
    if moment.__class__ is not tuple or bool in [place.__class__ for place in moment] or moment not in held:
        return False
    sign = -1 if lowest else 1
    weight = {step: weight_in(rows, step, weights, sign) for step in steps_of(rows)}
    if not all(is_flowing(rows, held, item, weight) for item in flow):
        return False
    for step in weight:
        if sum(amount for gain, cost, amount in flow if step in (gain, cost)) > abs(weight[step]):
            return False
    above = sum(max(weight[step], 0) for step in free_in(rows, held))
    least = sign * total_of(rows, meet(*held), weights)
    return sign * total_of(rows, moment, weights) == least + above - sum(amount for gain, cost, amount in flow)


class BestTest(unittest.TestCase):

    def check_best(self, rows, lot, held, weights, lowest, last):
        shown = (Log(*rows).text(), held, weights, lowest, last)
        found = best(lot, weights=weights, lowest=lowest, last=last)
        self.assertIs(found.__class__, Best)
        totals = [total_of(rows, moment, weights) for moment in held]
        reached = min(totals) if lowest else max(totals)
        right = [moment for moment, total in zip(held, totals) if total == reached]
        self.assertEqual(found.moment, join(*right) if last else meet(*right), shown)
        self.assertEqual((found.reached(), found.told()), (reached, f"best {reached}"), shown)
        self.assertEqual(repr(found), f"Paper(best {reached})")
        self.assertIs(found.holds(), True, shown)
        self.assertIs(best_holds(rows, held, found.moment, found.flow(), weights, lowest), True, shown)
        self.assertIs(bool(found), True)
        self.assertEqual((found.lot, found.weights, found.lowest), (lot, weights, lowest))
        self.assertIs(found.flow().__class__, list)

    def test_lots_of_all_kinds(self):
        rng = seeded(151)
        for _ in range(60):
            rows = small_rows(rng)
            for lot, held in lots_of_all_kinds(rng, rows):
                for weights in [None, weights_of(rng)] if held else []:
                    for lowest in (False, True):
                        for last in (False, True):
                            self.check_best(rows, lot, held, weights, lowest, last)

    def test_small_weights_with_many_best_moments(self):
        rng = seeded(152)
        for _ in range(150):
            rows = [(name, [(mark, rng.choice([-1, 0, 0, 1]), deed) for mark, number, deed in steps])
                    for name, steps in small_rows(rng, 4, 8)]
            held = moments_of(rows)
            for lowest in (False, True):
                for last in (False, True):
                    self.check_best(rows, whole_lot(Log(*rows)), held, None, lowest, last)

    def test_defaults(self):
        log = Log.read("a: x=2 y=-5\nb: z=1\n")
        for lot in [whole_lot(log), lot_of(log, (("ceiling", "a", 1),))]:
            found = best(lot)
            self.assertEqual((found.moment, found.weights, found.lowest), ((1, 1), None, False))
            self.assertEqual(best(lot=lot).moment, (1, 1))
        self.assertEqual(best(whole_lot(log), lowest=True).moment, (2, 0))
        self.assertEqual(best(whole_lot(log), lowest=True).reached(), -3)
        self.assertEqual(best(whole_lot(log), weights={}).moment, (0, 0))
        self.assertEqual(best(whole_lot(log), weights={}, last=True).moment, (2, 1))

    def test_best_moments_are_a_lot(self):
        rng = seeded(153)
        for _ in range(60):
            rows = small_rows(rng)
            totals = {moment: total_of(rows, moment, None) for moment in moments_of(rows)}
            right = [moment for moment in totals if totals[moment] == max(totals.values())]
            for one in right:
                for other in right:
                    self.assertTrue(meet(one, other) in right and join(one, other) in right)

    def test_the_log_without_processes(self):
        found = best(whole_lot(Log()))
        self.assertEqual((found.moment, found.flow(), found.told(), found.holds()), ((), [], "best 0", True))

    def test_the_order_of_the_weights_means_nothing(self):
        rng = seeded(154)
        for _ in range(40):
            rows = small_rows(rng)
            weights = weights_of(rng)
            turned = dict(reversed(list(weights.items())))
            one = best(whole_lot(Log(*rows)), weights=weights)
            other = best(whole_lot(Log(*rows)), weights=turned)
            self.assertEqual((one.moment, one.flow(), one.weights), (other.moment, other.flow(), other.weights))


class ErrorTest(unittest.TestCase):

    def test_empty_lots_and_wrong_weights(self):
        log = Log.read("a: x y\n")
        for empty in [empty_lot(log), empty_lot(Log()), lot_of(log, (("floor", "a", 3),))]:
            for weights in [None, {}] + WRONG_WEIGHTS:
                check_error(self, EmptyLot, {}, best, empty, weights=weights)
                check_error(self, EmptyLot, {}, best, lot=empty, lowest=True, last=True)
        for weights in WRONG_WEIGHTS + [value for value in ODD_VALUES if value is not None]:
            check_error(self, InvalidWeights, {}, best, whole_lot(log), weights=weights)
            check_error(self, InvalidWeights, {}, best, whole_lot(log), weights=weights, lowest=True, last=True)
        for weights in RIGHT_WEIGHTS:
            self.assertIs(best(whole_lot(log), weights=weights).holds(), True)


class PaperTest(unittest.TestCase):

    def check_paper(self, rows, lot, held, moment, flow, weights, lowest):
        """Checks holds, reached and told, and returns whether the paper holds."""
        shown = (Log(*rows).text(), held, moment, flow, weights, lowest)
        found = Best(lot, moment, flow, weights=weights, lowest=lowest)
        right = best_holds(rows, held, moment, flow, weights, lowest)
        self.assertIs(found.holds(), right, shown)
        plain = moment.__class__ is tuple and all(place.__class__ is int for place in moment)
        reached = total_of(rows, moment, weights) if plain and moment in moments_of(rows) else None
        self.assertEqual(found.reached(), reached, shown)
        told = "best" if reached is None else f"best {reached}"
        self.assertEqual((found.told(), repr(found)), (told, f"Paper({told})"))
        self.assertIs(bool(found), True)
        self.assertEqual((found.moment, found.weights, found.lowest), (moment, weights, lowest))
        return right

    def changed_flows(self, rng, rows, flow):
        steps = steps_of(rows)
        drawn = [(rng.choice(steps), rng.choice(steps), rng.choice([1, 1, 2, 7, 99, 0, -1])) for _ in range(5)]
        for at, (gain, cost, amount) in enumerate(flow):
            ahead, behind = flow[:at], flow[at + 1:]
            yield ahead + behind
            yield ahead + [flow[at], flow[at]] + behind
            yield behind + [flow[at]] + ahead
            for other in [(gain, cost, amount + 1), (gain, cost, amount - 1), (cost, gain, amount), (gain, cost, True),
                          (rng.choice(steps), cost, amount), (gain, rng.choice(steps), amount), [gain, cost, amount],
                          (gain, cost), (list(gain), cost, amount), (gain, cost, str(amount)), (gain, cost, 0),
                          ((gain[0], bool(gain[1])), cost, amount), (gain, (cost[0], bool(cost[1])), amount), ("q", cost, amount), (("q", 0), cost, amount)]:
                yield ahead + [other] + behind
            # Two amounts in the place of one are right, too.
            yield ahead + [(gain, cost, 1), (gain, cost, amount - 1)] + behind
        for item in drawn:
            yield flow + [item]
            yield [item]
        yield flow[::-1]
        yield tuple(flow)

    def test_changed_papers(self):
        rng = seeded(155)
        counts = {True: 0, False: 0}
        for _ in range(120):
            rows = small_rows(rng)
            for lot, held in rng.sample(lots_of_all_kinds(rng, rows), 2) if steps_of(rows) else []:
                if held:
                    self.check_changes(rng, rows, lot, held, counts)
        self.assertTrue(min(counts.values()) > 500, counts)

    def check_changes(self, rng, rows, lot, held, counts):
        weights, lowest = rng.choice([None, None, weights_of(rng)]), rng.random() < 0.4
        right = best(lot, weights=weights, lowest=lowest, last=rng.random() < 0.5)
        for flow in self.changed_flows(rng, rows, right.flow()):
            counts[self.check_paper(rows, lot, held, right.moment, flow, weights, lowest)] += 1
        for moment in moments_of(rows) + [list(right.moment), None, right.moment + (0,), "moment", (True,) * len(rows)]:
            counts[self.check_paper(rows, lot, held, moment, right.flow(), weights, lowest)] += 1
        for other in [weights_of(rng), None, {}]:
            counts[self.check_paper(rows, lot, held, right.moment, right.flow(), other, lowest)] += 1
        for side in [True, False, None, 0, 1, "", (), [True]]:
            counts[self.check_paper(rows, lot, held, right.moment, right.flow(), weights, side)] += 1

    def test_all_single_flows_of_small_lots(self):
        rows = [("a", [("x", 3, None), ("y", -2, None)]), ("b", [("x", -1, ("send", "m")), ("y", 2, None)]),
                ("c", [("z", 2, ("receive", "m"))])]
        condition = (("tie", ("a", 0), ("b", 0)),)
        lot, held = lot_of(Log(*rows), condition), held_moments(rows, condition)
        right = 0
        for moment in held:
            for gain in steps_of(rows):
                for cost in steps_of(rows):
                    for amount in (1, 2, 3):
                        right += self.check_paper(rows, lot, held, moment, [(gain, cost, amount)], None, False)
        self.assertGreater(right, 0)

    def test_all_pairs_of_flows(self):
        rows = [("a", [("x", -2, None), ("y", 3, None)]), ("b", [("x", -2, ("send", "m"))])]
        rows[0][1][1] = ("y", 3, ("receive", "m"))
        lot, held = whole_lot(Log(*rows)), moments_of(rows)
        right = 0
        for moment in held:
            for one, other in itertools.product([("a", 0), ("b", 0)], repeat=2):
                for first, second in itertools.product((1, 2, 3), repeat=2):
                    flow = [(("a", 1), one, first), (("a", 1), other, second)]
                    right += self.check_paper(rows, lot, held, moment, flow, None, False)
        self.assertGreater(right, 0)

    def test_other_values(self):
        rows = [("a", [("x", 3, None), ("y", -2, None)])]
        lot, held = whole_lot(Log(*rows)), moments_of(rows)
        for value in ODD_VALUES:
            if value != []:
                self.check_paper(rows, lot, held, (1,), value, None, False)
            self.check_paper(rows, lot, held, (1,), [value], None, False)
            self.check_paper(rows, lot, held, value, [], None, False)
            if value not in (True, False):
                self.check_paper(rows, lot, held, (1,), [], None, value)
        self.assertTrue(self.check_paper(rows, lot, held, (1,), [], None, False))

    def test_the_class(self):
        self.assertTrue(issubclass(Best, Paper))
        self.assertEqual(Best.WORD, "best")
        for name in ["__init__", "flow", "reached", "holds", "told", "__bool__"]:
            self.assertIn(name, vars(Best))
        lot = whole_lot(Log.read("a: x=1\n"))
        for found in [Best(lot, (1,), []), Best(flow=[], moment=(1,), lot=lot, lowest=False, weights=None)]:
            self.assertEqual((found.holds(), found.weights, found.lowest, found.told()), (True, None, False, "best 1"))
        with self.assertRaises(TypeError):
            Best(lot, (1,), [], None)


if __name__ == "__main__":
    unittest.main()
