"""Walks of one model: the rows of their members, outermost first, each (kind, words, used)."""

from handkept.classes import used_with
from handkept.forms import has_classes, has_used
from handkept.values import is_tuple_of

AT_FIRST = ("", (), ())
CLOSE = ("close",)
END = ("end",)


def opened_rows(naming, rows):
    """All (step, rows behind it, block, classes of the records open in it) by which a record opens.

    A step is ("both", kind, classes, classes), as for two models that are the same.
    """
    if rows == ():
        return []
    outer, outer_words, used = rows[-1]
    found = []
    for kind in naming.uses.inner[outer]:
        for words in naming.records_of(kind):
            now_used = used_with(used, kind, words[0])
            if now_used is not None:
                own = (kind, naming.lasting_words(kind, words), ())
                ahead = rows[:-1] + ((outer, outer_words, now_used), own)
                found.append((("both", kind, words, words), ahead, ("open", kind), words_of(rows) + (words,)))
    return found


def closed_rows(rows):
    """The same for a close or the end: one, or none."""
    if rows == ():
        return []
    if len(rows) == 1:
        return [(END, (), ("end", ""), ())]
    return [(CLOSE, rows[:-1], ("close", rows[-1][0]), words_of(rows))]


def has_rows(naming, value):
    """Whether any value is the rows of a member, by their form."""
    if value == ():
        return True
    if not isinstance(value, tuple) or not all([is_tuple_of(row, 3) for row in value]):
        return False
    if value[0][:2] != AT_FIRST[:2]:
        return False
    for ahead, row in zip(value, value[1:]):
        if row[0] not in naming.uses.inner[ahead[0]] or not has_classes(naming, row[0], row[1]):
            return False
    return all([has_used([naming], row[0], row[2]) for row in value])


def words_of(rows):
    """The classes of the records that are open, outermost first."""
    return tuple([row[1] for row in rows[1:]])
