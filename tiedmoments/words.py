"""Names, words, numbers and steps, and the texts of steps."""

LETTERS = "abcdefghijklmnopqrstuvwxyz"
DIGITS = "0123456789"
NAME_LENGTH = 6
WORD_LENGTH = 4
LEAST = -99
MOST = 99
START = "start"
DEEDS = (("send", "!"), ("receive", "?"))


def is_name(value):
    """Whether any value is a name: 1 to 6 lowercase letters."""
    return isinstance(value, str) and len(value) <= NAME_LENGTH and _consists_of(value, LETTERS)


def is_word(value):
    """Whether any value is a word: 1 to 4 lowercase letters."""
    return isinstance(value, str) and len(value) <= WORD_LENGTH and _consists_of(value, LETTERS)


def is_number(value, least, most):
    """Whether any value is a number from least to most."""
    # Python takes True and False for integers, the document does not.
    return isinstance(value, int) and not isinstance(value, bool) and least <= value <= most


def is_step(value):
    """Whether any value is a step: a tuple of a mark, a number and a deed."""
    if not isinstance(value, tuple) or len(value) != 3:
        return False
    mark, number, deed = value
    return is_word(mark) and is_number(number, LEAST, MOST) and _is_deed(deed)


def step_text(step):
    """The text of a step."""
    mark, number, deed = step
    text = mark
    if number != 0:
        text = f"{text}={number}"
    for kind, sign in DEEDS:
        if deed is not None and deed[0] == kind:
            text = f"{text}{sign}{deed[1]}"
    return text


def read_step(text):
    """The step with a text, or None for any value that is no text of a step."""
    if not isinstance(text, str):
        return None
    rest, deed = _split_deed(text)
    mark, equals, digits = rest.partition("=")
    step = (mark, read_number(digits) if equals else 0, deed)
    # A step has one text only: writing it again refuses all other spellings, such as x=0 or x=05.
    if is_step(step) and step_text(step) == text:
        return step
    return None


def read_number(text):
    """The number that is written with one or two digits, perhaps with leading zeros, or None."""
    digits = text.removeprefix("-")
    if len(digits) > 2 or not _consists_of(digits, DIGITS):
        return None
    return int(text)


def _consists_of(text, signs):
    return text != "" and all([sign in signs for sign in text])


def _is_deed(value):
    if value is None:
        return True
    if not isinstance(value, tuple) or len(value) != 2:
        return False
    return value[0] in [kind for kind, sign in DEEDS] and is_word(value[1])


def _split_deed(text):
    """The text ahead of the sign of a deed, and the deed or None."""
    for kind, sign in DEEDS:
        rest, found, message = text.partition(sign)
        if found:
            return rest, (kind, message)
    return text, None
