"""What several test files need: wrong values, random logs and conditions, what holds of them, a check of errors."""

import itertools
import random

from tiedmoments.errors import DuplicateMessage, Ring, Unsent
from tiedmoments.logs import Log
from tiedmoments.lots import empty_lot, lot_of, whole_lot

LETTERS = "abcdefghijklmnopqrstuvwxyz"

# Values of every kind that "any value" may have, none of them a name, a word or a step.
ODD_VALUES = [
    None, True, False, 0, 1, -1, 999999999, -999999999, "", " ", "A", "a b", "a\n", "a1", "a-b", "abcdefg", "start ",
    (), [], ("a",), ["a"], ("a", "b"), (None, None), [[]], ((),), ("a", [("x", 0, None)]), ["a", ["x", 0, None]],
    (("x", 0, None),), [1, [2, [3, [4, [5]]]]], (1, (2, (3, (4, (5,))))), "x" * 3000, ("x", [True], 1),
]

# Marks and pairs of marks, more than one clause may have.
MARKS = ["start"] + [first + second for first in LETTERS for second in LETTERS][:60]
PAIRS = list(itertools.product(MARKS[:5], repeat=2))

RIGHT_CLAUSES = [
    ("at", "a", ("x",)), ("at", "abcdef", ("start",)), ("at", "start", ("abcd", "a", "start", "zzzz")),
    ("at", "at", ("at", "in", "upto")), ("at", "a", tuple(MARKS[:21])), ("at", "a", tuple(MARKS[20:41])),
    ("lead", "a", "", "b", "", 0), ("lead", "a", "x", "b", "x", 99), ("lead", "abcdef", "abcd", "z", "", -99),
    ("lead", "b", "", "a", "z", -1), ("lead", "lead", "lead", "most", "most", 1),
    ("pair", "a", "b", (("x", "x"),)), ("pair", "b", "a", (("start", "start"), ("x", "start"), ("start", "x"))),
    ("pair", "abcdef", "abcdeg", (("abcd", "z"),)), ("pair", "a", "b", tuple(PAIRS[:16])),
    ("pair", "a", "b", (("x", "y"), ("y", "x"), ("x", "x"), ("y", "y"))),
    ("tie", ("a", 0), ("b", 19)), ("tie", ("a", 19), ("a", 0)), ("tie", ("a", 3), ("a", 3)),
    ("tie", ("abcdef", 7), ("z", 8)),
    ("floor", "a", 0), ("floor", "abcdef", 20), ("ceiling", "a", 0), ("ceiling", "abcdef", 20), ("ceiling", "a", 7),
]

WRONG_CLAUSES = [
    # Marks that are no tuple, none, too many, doubled, or not all marks.
    ("at", "a", ["x"]), ("at", "a", "x"), ("at", "a", ()), ("at", "a", None), ("at", "a", []),
    ("at", "a", tuple(MARKS[:22])), ("at", "a", tuple(MARKS)), ("at", "a", ("x", "x")), ("at", "a", ("x", "y", "x")),
    ("at", "a", ("start", "start")), ("at", "a", (("x",),)), ("at", "a", "start"),
    # One process in the place of two.
    ("lead", "a", "", "a", "", 0), ("lead", "a", "x", "a", "y", 3), ("pair", "a", "a", (("x", "y"),)),
    # Pairs that are no tuple of tuples, none, too many, doubled, or of another length.
    ("pair", "a", "b", [("x", "y")]), ("pair", "a", "b", (["x", "y"],)), ("pair", "a", "b", ()),
    ("pair", "a", "b", ("x", "y")), ("pair", "a", "b", "xy"), ("pair", "a", "b", ("xy",)), ("pair", "a", "b", None),
    ("pair", "a", "b", tuple(PAIRS[:17])), ("pair", "a", "b", (("x", "y"), ("x", "y"))),
    ("pair", "a", "b", (("x", "y"), ("y", "x"), ("x", "y"))), ("pair", "a", "b", (("x", "y", "z"),)),
    ("pair", "a", "b", (("x",),)), ("pair", "a", "b", ((),)), ("pair", "a", "b", (("x", "y"), None)),
    # Steps that are no pairs of a name and an index.
    ("tie", ["a", 0], ("b", 0)), ("tie", ("a", 0), ["b", 0]), ("tie", ("a", 0), ("b", 20)), ("tie", ("a", 20), ("b", 0)),
    ("tie", ("a", -1), ("b", 0)), ("tie", ("a", 0), ("b", -1)), ("tie", ("a", True), ("b", 0)),
    ("tie", ("a", 0), ("b", False)), ("tie", ("a", 0, 0), ("b", 0)), ("tie", ("a", 0), ("b",)), ("tie", "a0", ("b", 0)),
    ("tie", ("a", 0), None), ("tie", (0, "a"), ("b", 0)), ("tie", ("a", "0"), ("b", 0)), ("tie", ("A", 0), ("b", 0)),
    ("tie", ("a", 0), ("", 0)), ("tie", ("a", 0), ("b", None)), ("tie", "ab", "cd"), ("tie", (("a", 0), ("b", 0))),
    # Places below 0 or above 20.
    ("floor", "a", -1), ("floor", "a", 21), ("ceiling", "a", -1), ("ceiling", "a", 21), ("floor", "a", True),
    ("ceiling", "a", False), ("floor", "a", "0"), ("ceiling", "a", None), ("floor", "a", (0,)), ("ceiling", "a", [0]),
    # Other words, and clauses of one kind with the word of another one.
    ("in", "a", ("x",)), ("At", "a", ("x",)), ("", "a", 0), (None, "a", 0), (0, "a", 0), (["at"], "a", ("x",)),
    (("at",), "a", ("x",)), ("from", "a", 0), ("upto", "a", 0), ("at", "a", 0), ("floor", "a", ("x",)), ("a", "x"),
    ("tie", "a", 0), ("pair", "a", "", "b", "", 0), ("lead", "a", "b", (("x", "y"),)), (True, "a", 1),
]


def check_error(case, error, attributes, call, *values, **named):
    """The call raises just this error, with these attributes and the code."""
    try:
        call(*values, **named)
    except error as caught:
        found = caught
    else:
        case.fail(f"no {error.__name__} for {values!r} {named!r}")
    case.assertIs(found.__class__, error)
    case.assertEqual(found.code, error.__name__)
    for name, value in attributes.items():
        case.assertEqual(getattr(found, name), value)
        case.assertIs(getattr(found, name).__class__, value.__class__)


def words():
    """Words in a fixed order, all different."""
    for first in LETTERS:
        for second in LETTERS:
            yield first + second


def random_rows(rng, most_processes=6, most_steps=20, least_processes=0):
    """Rows of a log, as lists, with messages to and fro."""
    count = rng.randint(least_processes, most_processes)
    names = rng.sample(["a", "b", "cc", "delta", "abcdef", "z", "start", "q"], count)
    rows = [(name, []) for name in names]
    fresh = words()
    under_way = []
    for _ in range(rng.randint(0, most_steps * len(rows)) if rows else 0):
        name, steps = rng.choice(rows)
        if len(steps) >= most_steps:
            continue
        steps.append((rng.choice(["x", "y", "zz", "done"]), random_number(rng), _random_deed(rng, fresh, under_way)))
    return rows


def _random_deed(rng, fresh, under_way):
    kind = rng.randrange(4)
    if kind > 1 and under_way:
        return ("receive", under_way.pop(rng.randrange(len(under_way))))
    if kind in (1, 2):
        under_way.append(next(fresh))
        return ("send", under_way[-1])
    return None


def random_number(rng):
    return rng.choice([0, 0, 1, -1, 7, -99, 99, rng.randint(-99, 99)])


def copy_of(rows):
    return [(name, list(steps)) for name, steps in rows]


def crossing_rows(rng, processes, steps):
    """Rows whose messages go to and fro without regard to order."""
    rows = [(name, []) for name in ["a", "b", "c"][:processes]]
    messages = ["k", "l", "m", "n"]
    for name, row in rows:
        for _ in range(rng.randint(0, steps)):
            deed = rng.choice([None, ("send", rng.choice(messages)), ("receive", rng.choice(messages))])
            row.append((rng.choice(["x", "y"]), 0, deed))
    return rows


def seeded(number):
    return random.Random(number)


def message_error(rows):
    """The error that the messages of right rows require, or None."""
    deeds = [step[2] for name, steps in rows for step in steps if step[2] is not None]
    for at, deed in enumerate(deeds):
        if deed in deeds[:at]:
            return DuplicateMessage, {"message": deed[1]}
    for kind, message in deeds:
        if kind == "receive" and ("send", message) not in deeds:
            return Unsent, {"message": message}
    stuck = stuck_processes(rows)
    return (Ring, {"process": stuck[0]}) if stuck else None


def stuck_processes(rows):
    """The processes that do not come to their end, found by passes from the last process to the first."""
    places = {name: 0 for name, steps in rows}
    sent = set()
    moved = True
    while moved:
        moved = False
        for name, steps in reversed(rows):
            if places[name] == len(steps):
                continue
            deed = steps[places[name]][2]
            if deed is None or deed[0] == "send" or deed[1] in sent:
                sent.add(deed[1] if deed is not None and deed[0] == "send" else None)
                places[name] += 1
                moved = True
    return [name for name, steps in rows if places[name] < len(steps)]


def small_rows(rng, most_processes=4, most_steps=7):
    """Rows with few steps in all, so that each point can be looked at."""
    count = rng.randint(0, most_processes)
    rows = [(name, []) for name in rng.sample(["a", "b", "cc", "in", "abcdef", "z"], count)]
    fresh = words()
    under_way = []
    for _ in range(rng.randint(0, most_steps) if rows else 0):
        deed = _random_deed(rng, fresh, under_way) if rng.random() < 0.6 else None
        rng.choice(rows)[1].append((rng.choice(["x", "y", "z"]), random_number(rng), deed))
    return rows


def names_of(rows):
    return [name for name, steps in rows]


def points_of(rows):
    """All points, from the definition."""
    return list(itertools.product(*[range(len(steps) + 1) for name, steps in rows]))


def is_moment_of(rows, point):
    deeds = [step[2] for (name, steps), place in zip(rows, point) for step in steps[:place]]
    return all(("send", deed[1]) in deeds for deed in deeds if deed is not None and deed[0] == "receive")


def in_order(moments):
    return sorted(moments, key=lambda moment: (sum(moment), moment))


def moments_of(rows):
    """All moments in order, from the definition."""
    return in_order([point for point in points_of(rows) if is_moment_of(rows, point)])


def meet(*points):
    return tuple(min(places) for places in zip(*points))


def join(*points):
    return tuple(max(places) for places in zip(*points))


def is_below(one, other):
    return all(first <= second for first, second in zip(one, other))


def clause_holds_at(rows, clause, point):
    """Whether a clause holds at a point, from its definition; a place may be one beyond the row."""
    made = {name: steps[:place] for (name, steps), place in zip(rows, point)}
    places = dict(zip(names_of(rows), point))
    marks = {name: steps[-1][0] if steps else "start" for name, steps in made.items()}
    match clause:
        case ("at", process, allowed):
            return marks[process] in allowed
        case ("lead", process, first, other, second, most):
            one = sum(1 for step in made[process] if first in ("", step[0]))
            two = sum(1 for step in made[other] if second in ("", step[0]))
            return one - two <= most
        case ("pair", process, other, pairs):
            return (marks[process], marks[other]) in pairs
        case ("tie", (process, index), (other, second)):
            return places[process] <= index or places[other] > second
        case ("floor", process, place):
            return places[process] >= place
        case ("ceiling", process, place):
            return places[process] <= place


def condition_holds_at(rows, condition, point):
    return all([clause_holds_at(rows, clause, point) for clause in condition])


def is_parted_on(rows, clause):
    """Whether a clause holds at two moments and not at their meet or not at their join."""
    held = [moment for moment in moments_of(rows) if clause_holds_at(rows, clause, moment)]
    found = set(held)
    return not all(meet(one, two) in found and join(one, two) in found for one in held for two in held)


def random_marks(rng, most=3):
    return tuple(rng.sample(["x", "y", "z", "start"], rng.randint(1, most)))


def random_clause(rng, names, kinds=("at", "lead", "pair", "tie", "floor", "ceiling")):
    """A right clause about processes of a small log; at least one name is needed, two for a lead or a pair."""
    kind = rng.choice([kind for kind in kinds if len(names) > 1 or kind not in ("lead", "pair")])
    if kind == "at":
        return ("at", rng.choice(names), random_marks(rng))
    if kind == "lead":
        one, two = rng.sample(names, 2)
        first, second = rng.choices(["", "", "x", "y", "z", "w"], k=2)
        return ("lead", one, first, two, second, rng.choice([-2, -1, -1, 0, 0, 0, 1, 1, 2]))
    if kind == "pair":
        one, two = rng.sample(names, 2)
        every = list(itertools.product(["x", "y", "z", "start"], repeat=2))
        return ("pair", one, two, tuple(rng.sample(every, rng.choice([1, 2, 3, 5, 8, 12, 15, 16]))))
    if kind == "tie":
        return ("tie", (rng.choice(names), rng.randint(0, 4)), (rng.choice(names), rng.randint(0, 4)))
    return (kind, rng.choice(names), rng.choice([0, 1, 1, 2, 2, 3, 4, 5]))


def random_condition(rng, names, most=3):
    if not names:
        return ()
    return tuple(random_clause(rng, names) for _ in range(rng.randint(0, most)))


def closed_condition(rng, rows, most=3):
    """A condition of which no clause is parted on a log with these rows."""
    condition = random_condition(rng, names_of(rows), most)
    return tuple(clause for clause in condition if clause[0] != "pair" or not is_parted_on(rows, clause))


def least_above(rows, condition, point):
    """The least moment at which a condition holds and within which a point lies, or None."""
    above = [moment for moment in moments_of(rows)
             if is_below(point, moment) and condition_holds_at(rows, condition, moment)]
    return meet(*above) if above else None


def steps_of(rows):
    """The pairs that name all steps, by processes and indexes."""
    return [(name, index) for name, steps in rows for index in range(len(steps))]


def has_step(rows, moment, step):
    return moment[names_of(rows).index(step[0])] > step[1]


def steps_at(rows, moment):
    return [step for step in steps_of(rows) if has_step(rows, moment, step)]


def held_moments(rows, condition):
    """The moments at which a condition holds, in order."""
    return [moment for moment in moments_of(rows) if condition_holds_at(rows, condition, moment)]


def closure(moments):
    """All moments that are meets and joins of some."""
    found = set(moments)
    fresh = found
    while fresh:
        fresh = {put(one, other) for one in fresh for other in found for put in (meet, join)} - found
        found = found | fresh
    return in_order(found)


def need_in(rows, held, step):
    """The least of the moments of a lot that has a step, or None."""
    having = [moment for moment in held if has_step(rows, moment, step)]
    return meet(*having) if having else None


def free_in(rows, held):
    """The free steps of a lot, given by its moments."""
    return [step for step in steps_of(rows) if len({has_step(rows, moment, step) for moment in held}) == 2]


def blocks_in(rows, held):
    """The blocks of a lot: free steps that each of its moments has together, or has neither."""
    found = {}
    for step in free_in(rows, held):
        found.setdefault(tuple(has_step(rows, moment, step) for moment in held), []).append(step)
    needs = {tuple(block): need_in(rows, held, block[0]) for block in found.values()}
    return sorted(needs, key=lambda block: (sum(needs[block]), needs[block]))


def is_ahead_in(rows, held, one, other):
    """Whether a block is ahead of another one."""
    need = need_in(rows, held, other[0])
    return one != other and all(has_step(rows, need, step) for step in one)


def courses_in(rows, held):
    """All courses of a lot, each a list of moments."""
    blocks = blocks_in(rows, held)
    found = set(held)
    courses = [[meet(*held)]]
    for _ in blocks:
        longer = []
        for course in courses:
            made = steps_at(rows, course[-1])
            for block in blocks:
                if block[0] not in made:
                    point = tuple(sum(1 for step in [*made, *block] if step[0] == name) for name in names_of(rows))
                    if point in found:
                        longer.append([*course, point])
        courses = longer
    return courses


def random_tests(rng, rows, most=3):
    """Tests of some processes; there must be one."""
    names = rng.sample(names_of(rows), rng.randint(1, min(most, len(rows))))
    return tuple(("at", name, random_marks(rng)) for name in names)


def marks_at(rows, moment):
    """The marks of the processes at a moment, by their names."""
    return {name: steps[place - 1][0] if place else "start" for (name, steps), place in zip(rows, moment)}


def all_tests_hold(rows, tests, moment):
    return all(marks_at(rows, moment)[process] in marks for kind, process, marks in tests)


def stretches_in(rows, held, test):
    """The stretches of a test in a lot, from their definition."""
    own = names_of(rows).index(test[1])
    places = sorted({moment[own] for moment in held})
    right = {moment[own]: marks_at(rows, moment)[test[1]] in test[2] for moment in held}
    found = []
    for first in range(len(places)):
        for last in range(first, len(places)):
            inside = all(right[place] for place in places[first:last + 1])
            beside = places[:first][-1:] + places[last + 1:][:1]
            if inside and not any(right[place] for place in beside):
                found.append((test[1], places[first], places[last]))
    return found


def overlap_in(rows, held, one, other):
    """Whether two stretches overlap surely."""
    return _begins_ahead(rows, held, one, other) and _begins_ahead(rows, held, other, one)


def _begins_ahead(rows, held, one, other):
    least, greatest = dict(zip(names_of(rows), meet(*held))), dict(zip(names_of(rows), join(*held)))
    if one[1] == least[one[0]] or other[2] == greatest[other[0]]:
        return True
    of = {step: block for block in blocks_in(rows, held) for step in block}
    return is_ahead_in(rows, held, of[(one[0], one[1] - 1)], of[(other[0], other[2])])


def lots_of_all_kinds(rng, rows):
    """A few pairs of a lot and its moments: of conditions, whole and empty ones, meets and joins."""
    log = Log(*rows)
    conditions = [closed_condition(rng, rows, most) for most in (0, 2, 4)]
    found = [(lot_of(log, condition), held_moments(rows, condition)) for condition in conditions]
    found.append((found[1][0] | found[2][0], closure(found[1][1] + found[2][1])))
    found.append((found[1][0] & found[2][0], [moment for moment in found[1][1] if moment in found[2][1]]))
    return found + [(whole_lot(log), moments_of(rows)), (empty_lot(log), [])]
