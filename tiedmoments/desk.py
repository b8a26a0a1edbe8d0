"""Desks: lines about a tracer, and their answers."""

from tiedmoments.conditions import condition_text
from tiedmoments.courses import every
from tiedmoments.errors import LogError, Missing, NothingLeft
from tiedmoments.lots import whole_lot
from tiedmoments.sums import best
from tiedmoments.words import read_step


class Desk:
    """Answers lines about a tracer, and keeps both."""

    def __init__(self, tracer):
        self._tracer = tracer
        self._lines = []

    @property
    def tracer(self):
        """The tracer."""
        return self._tracer

    def say(self, line):
        """The answer to a line."""
        answer = _answer_to(self._tracer, line)
        self._lines.append((line, answer))
        return answer

    def __call__(self, line):
        return self.say(line)

    def lines(self):
        """The list of the pairs (line, answer)."""
        return list(self._lines)

    def __len__(self):
        return len(self._lines)

    def __bool__(self):
        return True

    def __repr__(self):
        return f"Desk({len(self._lines)} lines)"


def _undo(tracer):
    tracer.undo()
    return "done"


def _redo(tracer):
    tracer.redo()
    return "done"


def _tell_log(tracer):
    lines = tracer.present.text().split("\n")
    return " / ".join(lines[:-1]) if len(lines) > 1 else "empty"


def _tell_names(tracer):
    return " ".join(tracer.names()) if len(tracer) > 0 else "none"


def _tell_text(tracer, name):
    condition = tracer.condition_of(name)
    return condition_text(condition) if condition != () else "nothing"


def _tell_first(tracer, name):
    return _places_text(tracer.lot_for(name).least)


def _tell_last(tracer, name):
    return _places_text(tracer.lot_for(name).greatest)


def _places_text(moment):
    return "never" if moment is None else " ".join([str(place) for place in moment])


def _tell_ties(tracer, name):
    lot = tracer.lot_for(name)
    if not lot:
        return "never"
    ties = lot.ties()
    return condition_text(ties) if ties != () else "free"


def _tell_most(tracer, name):
    return _total_text(tracer.lot_for(name), False)


def _tell_least(tracer, name):
    return _total_text(tracer.lot_for(name), True)


def _total_text(lot, lowest):
    return str(best(lot, lowest=lowest).reached()) if lot else "never"


def _tell_must(tracer, name):
    return "yes" if every(whole_lot(tracer.present), tracer.condition_of(name)) else "no"


# What answers a line of one word, and what answers a question about a watch.
SINGLE = {"undo": _undo, "redo": _redo, "log": _tell_log, "names": _tell_names}
QUESTIONS = {
    "show": _tell_text, "can": _tell_first, "last": _tell_last, "ties": _tell_ties,
    "most": _tell_most, "least": _tell_least, "must": _tell_must,
}


def _answer_to(tracer, line):
    words = line.split(" ")
    if "" in words or "\n" in line:
        return "unknown"
    try:
        return _answer(tracer, words)
    except (LogError, Missing, NothingLeft) as error:
        return f"error {error.code}"


def _answer(tracer, words):
    """The answer to the words of a line; errors are raised."""
    word, *rest = words
    command = _command_of(word, rest)
    if command is not None:
        tracer.apply(command)
        return "done"
    if word in SINGLE and rest == []:
        single = SINGLE[word]
        return single(tracer)
    if word in QUESTIONS and len(rest) == 1:
        question = QUESTIONS[word]
        return question(tracer, rest[0])
    return "unknown"


def _command_of(word, rest):
    """The command of a line, or None if it is none."""
    if word in ("process", "drop") and len(rest) == 1:
        return (word, rest[0])
    if word == "rename" and len(rest) == 2:
        return (word, rest[0], rest[1])
    if word == "step" and len(rest) == 2:
        # A word that is no text of a step gives None, which is no step either.
        return (word, rest[0], read_step(rest[1]))
    if word in ("watch", "change") and len(rest) > 0:
        return (word, rest[0], " ".join(rest[1:]))
    return None
