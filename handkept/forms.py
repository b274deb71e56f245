"""What the members of several walks are made of."""

from handkept.values import is_ascending, is_integer, is_tuple_of


def has_cells(program, value):
    """Whether any value has, for each pass of a program, the worths of its cells."""
    if not is_tuple_of(value, program.passes):
        return False
    return all([_has_worths(part.worths, worths) for part, worths in zip(program.parts, value)])


def has_classes(naming, kind, value):
    """Whether any value has the classes of a record of this kind, "" for what does not last."""
    if not is_tuple_of(value, len(naming.uses.fields[kind])):
        return False
    for place, word in enumerate(value):
        ref = (kind, place)
        if word != "" and (not naming.lasts(ref) or word not in naming.words_named(ref)):
            return False
    return True


def has_used(namings, outer, value):
    """Whether any value has keys that are used below a kind, each named in one of these namings."""
    if not isinstance(value, tuple) or not all([is_tuple_of(name, 2) for name in value]):
        return False
    for kind, key in value:
        if kind not in namings[0].uses.inner[outer]:
            return False
        if not any([key in naming.words_named((kind, 0)) for naming in namings]):
            return False
    return is_ascending(value)


def _has_worths(worths, value):
    if not is_tuple_of(value, len(worths)):
        return False
    return all([is_integer(worth) and 0 <= worth < many for worth, many in zip(value, worths)])
