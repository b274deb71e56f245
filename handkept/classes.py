"""Classes of the words of records, and the keys of which are used in a row."""


def rows_of_classes(sorts):
    """All tuples of one of each of these lists."""
    rows = [()]
    for sort in sorts:
        rows = [row + (word,) for row in rows for word in sort]
    return rows


def used_with(used, kind, key):
    """What is used in a row with one more record; None if another one of this kind has its key.

    Keys of the class "" are unlike each other, and not used by it.
    """
    if key == "":
        return used
    if (kind, key) in used:
        return None
    return tuple(sorted([*used, (kind, key)]))
