"""Rows for the labels of a program, each a label and one or two models, beside a table of members of a walk.

has(member, label) tells whether a member says of a label what its models have to show. nothing is what stands in
the place of models where there are none: None for each.
"""

from handkept.reaching import Reach, is_closed
from handkept.values import is_ascending, is_tuple_of


def told_rows(walks, labels, has, nothing):
    """(rows, table): the models of fewest records for each label, and the least closed table."""
    reach = Reach(walks, True)
    reach.go()
    rows = []
    for label in labels:
        # Members came by the number of records that are opened on the way to them: the first one has the fewest.
        having = [member for member in reach.came if has(member, label)]
        models = walks.models_by(reach.steps_to(having[0]))[:len(nothing)] if having else nothing
        rows.append((label, *models))
    return (tuple(rows), reach.table())


def shows_rows(walks, labels, has, nothing, is_shown, value):
    """Whether any value is such (rows, table).

    is_shown(label, models) tells whether any values are models that show a label.
    """
    if not is_tuple_of(value, 2) or not is_tuple_of(value[0], len(labels)) or not isinstance(value[1], tuple):
        return False
    rows, table = value
    if not all([walks.has_member(member) for member in table]):
        return False
    for label, row in zip(labels, rows):
        if not is_tuple_of(row, 1 + len(nothing)) or row[0] != label:
            return False
        if row[1:] == nothing:
            if any([has(member, label) for member in table]):
                return False
        elif not is_shown(label, row[1:]):
            return False
    return is_ascending(table) and is_closed(walks, table)
