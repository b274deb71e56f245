"""Several edits together: the text with them, in its place and behind a change."""

from handkept.deeds import CHANGING, is_deed, lines_with
from handkept.edits import check_change, fate, is_rule, is_way, remembered
from handkept.errors import BadEdits, BadModel, Clash, NotMade
from handkept.finding import first_of_way
from handkept.models import is_model, written
from handkept.values import is_tuple_of

MOST_EDITS = 8


def edited(program, model, edits):
    """The tuple of the words of all lines, with each edit at the line at which it is made."""
    if not is_model(program, model):
        raise BadModel(model)
    check_edits(program, edits)
    for way, rule, _ in edits:
        if remembered(program, model, way, rule) is None:
            raise NotMade(way)
    lines = written(program, model)
    placed = [(first_of_way(lines, way), deed) for way, _, deed in edits]
    check_clash(placed)
    return lines_with([words for _, words in lines], placed)


def carried(elder, newer, sheet, elder_model, newer_model, edits):
    """(fates, lines): what comes of each edit behind a change, and the newer text with those that were found."""
    check_change(elder, newer, sheet, elder_model, newer_model)
    check_edits(elder, edits)
    fates = [fate(elder, newer, sheet, elder_model, newer_model, way, rule) for way, rule, _ in edits]
    placed = [(found, deed) for (_, found), (_, _, deed) in zip(fates, edits)]
    lines = [words for _, words in written(newer, newer_model)]
    return (tuple(fates), lines_with(lines, placed))


def check_edits(program, edits):
    """Refuses what is no tuple of edits by form."""
    if not isinstance(edits, tuple) or len(edits) > MOST_EDITS:
        raise BadEdits(edits)
    if not all([is_edit(program, edit) for edit in edits]):
        raise BadEdits(edits)


def is_edit(program, value):
    """Whether any value is an edit at a way of the program's labels, by form."""
    if not is_tuple_of(value, 3):
        return False
    way, rule, deed = value
    return is_way(program.labels, way) and is_rule(rule) and is_deed(deed)


def check_clash(placed):
    """Refuses the first edit that changes a line which an earlier one changed."""
    changed = {}
    for number, (line, deed) in enumerate(placed):
        if deed[0] in CHANGING:
            if line in changed:
                raise Clash(number)
            changed[line] = True
