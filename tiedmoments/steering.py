"""Steering: further ties after which one of several tests holds at each moment of a lot."""

from tiedmoments.climbs import Paper, copied, list_of
from tiedmoments.conditions import is_clause
from tiedmoments.courses import are_tests, chase, check_tests, opposite, overlap
from tiedmoments.lots import check_filled, free_steps, lot_of


class Steered(Paper):
    """Ties that leave all blocks of a lot, and only moments at which one of the tests holds."""

    WORD = "steered"

    def __init__(self, lot, tests, ties):
        self.lot = lot
        self.tests = copied(tests)
        self._ties = tuple(copied(ties)) if isinstance(ties, (list, tuple)) else ties

    def ties(self):
        """The tuple of the ties."""
        return copied(self._ties)

    def holds(self):
        """Whether the ties leave all blocks, and only moments at which one of the tests holds."""
        if not self.lot or not are_tests(self.lot.log, self.tests) or not _are_ties(self.lot, self._ties):
            return False
        tied = self.steered_lot()
        # The ties may change the needs of the blocks, and so the order in which a lot lists them.
        return sorted(tied.blocks()) == sorted(self.lot.blocks()) and _is_steered(tied, self.tests)

    def __bool__(self):
        return True

    def steered_lot(self):
        """The lot of the moments at which the ties hold."""
        return self.lot & lot_of(self.lot.log, self._ties)


class Stuck(Paper):
    """Stretches that show that every course of a lot passes a moment at which none of the tests holds."""

    WORD = "stuck"

    def __init__(self, lot, tests, stretches):
        self.lot = lot
        self.tests = copied(tests)
        self._stretches = list_of(stretches)

    def stretches(self):
        """The list of the stretches."""
        return copied(self._stretches)

    def holds(self):
        """Whether these are stretches of the opposite tests and each two of them overlap surely."""
        if not self.lot or not are_tests(self.lot.log, self.tests):
            return False
        others = _opposites(self.lot, self.tests)
        return None not in others and overlap(self.lot, others, self._stretches)

    def __bool__(self):
        return False


def steer(lot, tests):
    """A Steered if ties can bring it about that one of the tests holds at each moment, and otherwise a Stuck."""
    check_tests(lot.log, tests)
    check_filled(lot)
    others = _opposites(lot, tests)
    if None in others:
        return Steered(lot, tests, ())
    found, course, parted = chase(lot, others)
    if found is not None:
        return Stuck(lot, tests, found)
    return Steered(lot, tests, [("tie", begin, end) for begin, end in parted])


def _opposites(lot, tests):
    """The opposite of each test, None for one that holds at all places."""
    return [opposite(test, lot.log) for test in tests]


def _are_ties(lot, value):
    """Whether any value is a tuple of ties between free steps of a lot."""
    if not isinstance(value, tuple) or not all([is_clause(item) and item[0] == "tie" for item in value]):
        return False
    free = free_steps(lot)
    return all([one in free and other in free for kind, one, other in value])


def _is_steered(lot, tests):
    """Whether at least one of the tests holds at each moment of a lot."""
    others = _opposites(lot, tests)
    if None in others:
        return True
    return not (lot & lot_of(lot.log, tuple(others)))
