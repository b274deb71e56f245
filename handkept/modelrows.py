"""Rows within models: found by the path of the record in which they stand, and put in another way."""


def row_at(model, path):
    """The inner row of the record with this path, the model itself for (); None if there is no such record.

    path is any value.
    """
    if not isinstance(path, tuple):
        return None
    row = model
    for name in path:
        inner = [record[2] for record in row if name_of(record) == name]
        if not inner:
            return None
        row = inner[0]
    return row


def with_row(model, path, row):
    """The model with this row in the record with this path."""
    if path == ():
        return row
    return tuple([(record[0], record[1], with_row(record[2], path[1:], row)) if name_of(record) == path[0] else record
                  for record in model])


def name_of(record):
    """What tells a record in its row."""
    return (record[0], record[1][0])
