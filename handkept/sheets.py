"""Sheets, which tell what may happen to a model, and the changes that they let."""

from handkept.errors import BadModel, BadSheet
from handkept.models import is_model
from handkept.values import is_ascending


def is_sheet(program, value):
    """Whether any value is a sheet: an ascending tuple of what may happen to records of the program's kinds."""
    if not isinstance(value, tuple):
        return False
    leaves = _leaves(program)
    return all([leave in leaves for leave in value]) and is_ascending(value)


def is_change(program, sheet, elder, newer):
    """Whether the newer model is a change of the elder one by the sheet."""
    if not is_sheet(program, sheet):
        raise BadSheet(sheet)
    for model in (elder, newer):
        if not is_model(program, model):
            raise BadModel(model)
    fields = {name: ("key",) + own for name, _, own in program.kinds}
    return _is_change_of_row(fields, sheet, elder, newer)


def _leaves(program):
    """All that a sheet can have."""
    leaves = []
    for name, _, fields in program.kinds:
        leaves.extend([("come", name), ("go", name)])
        leaves.extend([("turn", name, field) for field in fields])
    return leaves


def _is_change_of_row(fields, sheet, elder, newer):
    elders = _by_name(elder)
    newers = _by_name(newer)
    same = [name for name in elders if name in newers]
    if same != [name for name in newers if name in elders]:
        return False
    gone = [("go", kind) for kind, key in elders if (kind, key) not in newers]
    come = [("come", kind) for kind, key in newers if (kind, key) not in elders]
    if not all([leave in sheet for leave in gone + come]):
        return False
    return all([_is_change_of_record(fields, sheet, elders[name], newers[name]) for name in same])


def _by_name(row):
    """The records of a row, in their sequence, by what tells them there."""
    return {(record[0], record[1][0]): record for record in row}


def _is_change_of_record(fields, sheet, elder, newer):
    kind, words, inner = elder
    _, newer_words, newer_inner = newer
    for field, word, newer_word in zip(fields[kind], words, newer_words):
        if word != newer_word and ("turn", kind, field) not in sheet:
            return False
    return _is_change_of_row(fields, sheet, inner, newer_inner)
