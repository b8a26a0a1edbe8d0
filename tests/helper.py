"""What several test files need: wrong values, random logs and a check of errors."""

import random

from tiedmoments.errors import DuplicateMessage, Ring, Unsent

LETTERS = "abcdefghijklmnopqrstuvwxyz"

# Values of every kind that "any value" may have, none of them a name, a word or a step.
ODD_VALUES = [
    None, True, False, 0, 1, -1, 999999999, -999999999, "", " ", "A", "a b", "a\n", "a1", "a-b", "abcdefg", "start ",
    (), [], ("a",), ["a"], ("a", "b"), (None, None), [[]], ((),), ("a", [("x", 0, None)]), ["a", ["x", 0, None]],
    (("x", 0, None),), [1, [2, [3, [4, [5]]]]], (1, (2, (3, (4, (5,))))), "x" * 3000, ("x", [True], 1),
]


def check_error(case, error, attributes, call, *values, **named):
    """The call raises just this error, with these attributes and the code."""
    try:
        call(*values, **named)
    except error as caught:
        found = caught
    else:
        case.fail(f"no {error.__name__} for {values!r} {named!r}")
    case.assertIs(found.__class__, error)
    case.assertEqual(found.code, error.__name__)
    for name, value in attributes.items():
        case.assertEqual(getattr(found, name), value)
        case.assertIs(getattr(found, name).__class__, value.__class__)


def words():
    """Words in a fixed order, all different."""
    for first in LETTERS:
        for second in LETTERS:
            yield first + second


def random_rows(rng, most_processes=6, most_steps=20, least_processes=0):
    """Rows of a log, as lists, with messages to and fro."""
    count = rng.randint(least_processes, most_processes)
    names = rng.sample(["a", "b", "cc", "delta", "abcdef", "z", "start", "q"], count)
    rows = [(name, []) for name in names]
    fresh = words()
    under_way = []
    for _ in range(rng.randint(0, most_steps * len(rows)) if rows else 0):
        name, steps = rng.choice(rows)
        if len(steps) >= most_steps:
            continue
        steps.append((rng.choice(["x", "y", "zz", "done"]), random_number(rng), _random_deed(rng, fresh, under_way)))
    return rows


def _random_deed(rng, fresh, under_way):
    kind = rng.randrange(4)
    if kind > 1 and under_way:
        return ("receive", under_way.pop(rng.randrange(len(under_way))))
    if kind in (1, 2):
        under_way.append(next(fresh))
        return ("send", under_way[-1])
    return None


def random_number(rng):
    return rng.choice([0, 0, 1, -1, 7, -99, 99, rng.randint(-99, 99)])


def copy_of(rows):
    return [(name, list(steps)) for name, steps in rows]


def crossing_rows(rng, processes, steps):
    """Rows whose messages go to and fro without regard to order."""
    rows = [(name, []) for name in ["a", "b", "c"][:processes]]
    messages = ["k", "l", "m", "n"]
    for name, row in rows:
        for _ in range(rng.randint(0, steps)):
            deed = rng.choice([None, ("send", rng.choice(messages)), ("receive", rng.choice(messages))])
            row.append((rng.choice(["x", "y"]), 0, deed))
    return rows


def seeded(number):
    return random.Random(number)


def message_error(rows):
    """The error that the messages of right rows require, or None."""
    deeds = [step[2] for name, steps in rows for step in steps if step[2] is not None]
    for at, deed in enumerate(deeds):
        if deed in deeds[:at]:
            return DuplicateMessage, {"message": deed[1]}
    for kind, message in deeds:
        if kind == "receive" and ("send", message) not in deeds:
            return Unsent, {"message": message}
    stuck = stuck_processes(rows)
    return (Ring, {"process": stuck[0]}) if stuck else None


def stuck_processes(rows):
    """The processes that do not come to their end, found by passes from the last process to the first."""
    places = {name: 0 for name, steps in rows}
    sent = set()
    moved = True
    while moved:
        moved = False
        for name, steps in reversed(rows):
            if places[name] == len(steps):
                continue
            deed = steps[places[name]][2]
            if deed is None or deed[0] == "send" or deed[1] in sent:
                sent.add(deed[1] if deed is not None and deed[0] == "send" else None)
                places[name] += 1
                moved = True
    return [name for name, steps in rows if places[name] < len(steps)]
