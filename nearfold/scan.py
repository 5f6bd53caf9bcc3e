"""Which texts are good, and how far others are the begin of a good one."""

from nearfold.errors import NoText

FIGURES = "0123456789"
FIRST_FIGURES = "123456789"
SIXTEEN_FIGURES = "0123456789abcdef"


def letters(word):
    """The runs of a word that stands as it is written."""
    return [(letter, 1, 1) for letter in word]


def good_forms():
    """The forms of good texts. A form is a list of runs, one behind the other; a run is a
    tuple of the signs that may stand in it, and how many at least and at most (or None)."""
    figures = [(FIGURES, 1, None)]
    behind = [(".", 1, 1), (FIGURES, 1, None)]
    power = [("e", 1, 1), ("-", 0, 1), (FIGURES, 1, 4)]
    nought = [("0", 1, 1)]
    mark = [(FIRST_FIGURES, 1, 1), (FIGURES, 0, 17)]
    forms = [
        letters("end"),
        letters("still ") + nought,
        letters("still ") + mark,
        letters("loud ") + nought,
        letters("loud ") + mark,
        figures,
        figures + behind,
        figures + power,
        figures + behind + power,
    ]
    return [[("-", 0, 1), *form] for form in forms]


def sixteen_forms():
    """The forms of texts by sixteen: there is one."""
    figures = [(SIXTEEN_FIGURES, 1, 1), (".", 1, 1), (SIXTEEN_FIGURES, 1, 20)]
    power = [("r", 1, 1), ("-", 0, 1), (FIGURES, 1, 4)]
    return [[("-", 0, 1), ("x", 1, 1), *figures, *power]]


def run_at(text, at, signs, most):
    """How many of these signs stand in the text from a place on, counted up to most."""
    many = 0
    while at + many < len(text) and text[at + many] in signs and many != most:
        many += 1
    return many


def matched(text, form):
    """How many signs at the text's begin are the begin of a text of this form, and whether
    they are a whole one."""
    at = 0
    # Behind a run of no fixed length comes no sign of its own, so the longest one is right.
    for signs, least, most in form:
        many = run_at(text, at, signs, most)
        at += many
        if many < least:
            return (at, False)
    return (at, True)


def matches(text, sixteen):
    """What matched tells of each form that the text may have; what is no text has none."""
    if not isinstance(text, str):
        return []
    forms = sixteen_forms() if sixteen else good_forms()
    return [matched(text, form) for form in forms]


def good_begin(text, sixteen=False):
    """How many signs at the text's begin are the begin of some good text, or text by sixteen."""
    return max([at for at, whole in matches(text, sixteen)], default=0)


def is_good(text, sixteen=False):
    """Whether a text is a good one, or one by sixteen."""
    return any(whole and at == len(text) for at, whole in matches(text, sixteen))


def check_text(text, sixteen=False):
    """Refuses what is no good text, or no text by sixteen."""
    if not is_good(text, sixteen):
        raise NoText(good_begin(text, sixteen))


def sign_and_rest(text):
    """The sign that a text tells, and what stands behind it."""
    return (1 if text.startswith("-") else 0, text.removeprefix("-"))
