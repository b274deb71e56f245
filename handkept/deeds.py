"""Deeds of edits: what hands do to lines."""

from handkept.values import is_tuple_of
from handkept.words import is_word

MOST_WORDS = 6
CHANGING = ("instead", "strike")


def is_deed(value):
    """Whether any value is a deed: (where, words), or ("strike",)."""
    if is_tuple_of(value, 1):
        return value[0] == "strike"
    if not is_tuple_of(value, 2) or value[0] not in ("ahead", "behind", "instead"):
        return False
    words = value[1]
    return isinstance(words, tuple) and 1 <= len(words) <= MOST_WORDS and all([is_word(word) for word in words])


def lines_with(lines, placed):
    """The tuple of the words of all lines, edited.

    lines are words of lines; placed are all (number of a line or None, deed), in the sequence of the edits. Of two
    that change one line the earlier one counts.
    """
    by_line = {}
    for number, deed in placed:
        by_line.setdefault(number, []).append(deed)
    edited = []
    for number, words in enumerate(lines):
        edited.extend(_line_with(words, by_line.get(number, [])))
    return tuple(edited)


def _line_with(words, deeds):
    """All lines that come of one by its deeds."""
    changes = [deed for deed in deeds if deed[0] in CHANGING]
    own = [words]
    if changes:
        own = _words_of(changes[:1], "instead")
    return _words_of(deeds, "ahead") + own + _words_of(deeds, "behind")


def _words_of(deeds, where):
    return [deed[1] for deed in deeds if deed[0] == where]
