"""Clauses and conditions: when they hold, when a clause is parted, and the texts of conditions."""

from tiedmoments.errors import InvalidClause, InvalidMoment, InvalidText, UnknownProcess
from tiedmoments.logs import Log
from tiedmoments.moments import first_moment, greater, has, is_moment, pasts, places_of
from tiedmoments.words import LEAST, MOST, START, is_name, is_number, is_word, read_number

MARKS = 21
PAIRS = 16


def is_clause(value):
    """Whether any value is a clause."""
    if not isinstance(value, tuple) or len(value) == 0:
        return False
    kind = value[0]
    if kind == "at":
        return len(value) == 3 and is_name(value[1]) and _are_marks(value[2])
    if kind == "lead":
        return _is_lead(value)
    if kind == "pair":
        return len(value) == 4 and _are_two_names(value[1], value[2]) and _are_pairs(value[3])
    if kind == "tie":
        return len(value) == 3 and _is_step_name(value[1]) and _is_step_name(value[2])
    if kind in ("floor", "ceiling"):
        return len(value) == 3 and is_name(value[1]) and is_number(value[2], 0, Log.STEPS)
    return False


def check(log, condition):
    """Raises an error unless a value is a condition that fits a log."""
    if not isinstance(condition, tuple):
        raise InvalidClause(-1)
    for at, clause in enumerate(condition):
        if not is_clause(clause):
            raise InvalidClause(at)
    for clause in condition:
        for name in names_in(clause):
            if name not in log:
                raise UnknownProcess(name)


def holds(log, condition, moment):
    """Whether a condition holds at a moment."""
    check(log, condition)
    if not is_moment(log, moment):
        raise InvalidMoment(moment)
    return all_hold(log, condition, places_of(log, moment))


def parting(log, clause):
    """A pair of moments that show that a clause is parted, or None."""
    check(log, (clause,))
    if clause[0] != "pair":
        return None
    held = held_pairs(log, clause)
    for one in held:
        for other in held:
            # The pairs of the lesser and of the greater places are possible, too: a missing one does not hold.
            if one[0] < other[0] and one[1] > other[1]:
                if (one[0], other[1]) not in held or (other[0], one[1]) not in held:
                    return held[one], held[other]
    return None


def condition_text(condition):
    """The text of a condition."""
    return " & ".join([_clause_text(clause) for clause in condition])


def read_condition(text):
    """The condition with a text."""
    if not isinstance(text, str):
        raise InvalidText(0)
    if text == "":
        return ()
    clauses = []
    for at, words in enumerate(_parts(text)):
        clause = _clause_of(words)
        # A clause has one text only: writing it again refuses all other spellings, such as a from 02.
        if not is_clause(clause) or _clause_text(clause) != " ".join(words):
            raise InvalidText(at)
        clauses.append(clause)
    return tuple(clauses)


def names_in(clause):
    """The names of processes in a clause, from left to right."""
    if clause[0] == "lead":
        return [clause[1], clause[3]]
    if clause[0] == "pair":
        return [clause[1], clause[2]]
    if clause[0] == "tie":
        return [clause[1][0], clause[2][0]]
    return [clause[1]]


def all_hold(log, condition, places):
    """Whether all clauses of a condition hold where the processes are at these places."""
    rows = dict(log.rows())
    return all([clause_holds(rows, clause, places) for clause in condition])


def clause_holds(rows, clause, places):
    """Whether a clause holds where the processes, whose rows are given by their names, are at these places."""
    kind = clause[0]
    if kind == "at":
        return _mark_in(rows, places, clause[1]) in clause[2]
    if kind == "lead":
        return _lead_in(rows, places, clause) <= clause[5]
    if kind == "pair":
        return (_mark_in(rows, places, clause[1]), _mark_in(rows, places, clause[2])) in clause[3]
    if kind == "tie":
        return not has(places, clause[1]) or has(places, clause[2])
    if kind == "floor":
        return places[clause[1]] >= clause[2]
    return places[clause[1]] <= clause[2]


def held_pairs(log, clause):
    """For each possible pair of places at which a pair clause holds, the least moment that has both."""
    kind, process, other, pairs = clause
    rows = dict(log.rows())
    known = pasts(log)
    found = {}
    for one in range(len(rows[process]) + 1):
        for two in range(len(rows[other]) + 1):
            moment = greater(_least_at(log, known, process, one), _least_at(log, known, other, two))
            places = places_of(log, moment)
            # Where the least moment that is so far has come further, no moment has these two places.
            if places[process] == one and places[other] == two and clause_holds(rows, clause, places):
                found[(one, two)] = moment
    return found


def _least_at(log, known, process, place):
    """The least moment at which a process is at a place, by the pasts of the steps."""
    return first_moment(log) if place == 0 else known[(process, place - 1)]


def _mark_in(rows, places, process):
    place = places[process]
    return START if place == 0 else rows[process][place - 1][0]


def _lead_in(rows, places, clause):
    """By how many more steps the first process of a lead clause is ahead of the other one."""
    kind, process, mark, other, second, most = clause
    return _count_in(rows, places, process, mark) - _count_in(rows, places, other, second)


def _count_in(rows, places, process, mark):
    """The number of the steps that a process has made, of those with a mark unless it is the empty string."""
    made = rows[process][:places[process]]
    return len([step for step in made if mark == "" or step[0] == mark])


def _is_mark(value):
    return value == START or is_word(value)


def _are_marks(value):
    if not isinstance(value, tuple) or not 1 <= len(value) <= MARKS:
        return False
    return all([_is_mark(mark) for mark in value]) and len(set(value)) == len(value)


def _is_lead(value):
    if len(value) != 6:
        return False
    kind, process, mark, other, second, most = value
    if not _are_two_names(process, other) or not is_number(most, LEAST, MOST):
        return False
    return _is_counted(mark) and _is_counted(second)


def _is_counted(value):
    return value == "" or is_word(value)


def _are_two_names(one, other):
    return is_name(one) and is_name(other) and one != other


def _are_pairs(value):
    if not isinstance(value, tuple) or not 1 <= len(value) <= PAIRS:
        return False
    return all([_is_mark_pair(pair) for pair in value]) and len(set(value)) == len(value)


def _is_mark_pair(value):
    return isinstance(value, tuple) and len(value) == 2 and _is_mark(value[0]) and _is_mark(value[1])


def _is_step_name(value):
    if not isinstance(value, tuple) or len(value) != 2:
        return False
    return is_name(value[0]) and is_number(value[1], 0, Log.STEPS - 1)


def _clause_text(clause):
    kind = clause[0]
    if kind == "at":
        return " ".join([clause[1], "in", *clause[2]])
    if kind == "lead":
        return _lead_text(clause)
    if kind == "pair":
        return " ".join([f"{clause[1]},{clause[2]}", "in", *[f"{one},{two}" for one, two in clause[3]]])
    if kind == "tie":
        (process, index), (other, second) = clause[1:]
        return f"{process}@{index} -> {other}@{second}"
    word = "from" if kind == "floor" else "upto"
    return f"{clause[1]} {word} {clause[2]}"


def _lead_text(clause):
    kind, process, mark, other, second, most = clause
    first = mark if mark != "" else "*"
    last = second if second != "" else "*"
    sign = "-" if most < 0 else "+"
    return f"{process}.{first} <= {other}.{last} {sign} {abs(most)}"


def _parts(text):
    """The lists of the words between the words &."""
    parts = [[]]
    for word in text.split(" "):
        if word == "&":
            parts.append([])
        else:
            parts[-1].append(word)
    return parts


def _clause_of(words):
    """What the words of a clause tell, or None; whether they are written as they must be is not asked."""
    if len(words) < 3:
        return None
    first, sign, *rest = words
    if sign == "in" and "," in first:
        process, other = _halves(first, ",")
        return ("pair", process, other, tuple([_halves(word, ",") for word in rest]))
    if sign == "in":
        return ("at", first, tuple(rest))
    if sign == "<=" and len(rest) == 3:
        return _lead_of(first, rest)
    if sign == "->":
        return ("tie", _step_of(first), _step_of(rest[0]))
    if sign == "from":
        return ("floor", first, read_number(rest[0]))
    if sign == "upto":
        return ("ceiling", first, read_number(rest[0]))
    return None


def _halves(word, sign):
    """The texts ahead of a sign and behind it."""
    first, _, last = word.partition(sign)
    return first, last


def _step_of(word):
    process, index = _halves(word, "@")
    return process, read_number(index)


def _lead_of(first, rest):
    second, sign, digits = rest
    process, mark = _count_of(first)
    other, last = _count_of(second)
    most = read_number(f"-{digits}" if sign == "-" else digits)
    return ("lead", process, mark, other, last, most)


def _count_of(word):
    process, mark = _halves(word, ".")
    return process, "" if mark == "*" else mark
