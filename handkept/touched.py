"""Which lines change if a field of a record turns."""

from handkept.comparing import WholeWalks, is_unlike, writes_unlike
from handkept.errors import BadField
from handkept.labelrows import shows_rows, told_rows
from handkept.models import is_model
from handkept.touchwalks import TouchWalk

NOTHING = (None, None)


def touched(program, kind, field):
    """(rows, table): for each label two models, the same but for this field, of which its lines are not the same."""
    return told_rows(checked_walks(program, kind, field), program.labels, is_unlike, NOTHING)


def shows_touched(program, kind, field, value):
    """Whether any value is such a result of touched, right by itself."""
    walks = checked_walks(program, kind, field)
    return shows_rows(walks, program.labels, is_unlike, NOTHING,
                      lambda label, models: are_touched(program, kind, field, label, models), value)


def checked_walks(program, kind, field):
    """The walks by this field. Refuses what is no field of a kind."""
    if not any([kind == name and field in fields for name, _, fields in program.kinds]):
        raise BadField((kind, field))
    return WholeWalks(TouchWalk(program, kind, field), (("turn", kind, field),))


def are_touched(program, kind, field, label, models):
    """Whether any two values are models, the same but for this field of one record, that show a label."""
    if not all([is_model(program, model) for model in models]):
        return False
    elder, newer = [records_of(model, 0) for model in models]
    if [record[:2] for record in elder] != [record[:2] for record in newer]:
        return False
    place = [1 + fields.index(field) for name, _, fields in program.kinds if name == kind][0]
    turned = [(own[1], words_but(own[2], place), words_but(other[2], place))
              for own, other in zip(elder, newer) if own != other]
    if len(turned) != 1 or turned[0][0] != kind or turned[0][1] != turned[0][2]:
        return False
    return writes_unlike((program, program), models, label)


def records_of(row, depth):
    """All (depth, kind, words) of the records of a row and of those in them, in their sequence."""
    found = []
    for kind, words, inner in row:
        found.append((depth, kind, words))
        found.extend(records_of(inner, depth + 1))
    return found


def words_but(words, place):
    return words[:place] + words[place + 1:]
