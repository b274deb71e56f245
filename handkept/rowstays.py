"""Whether edits stay through rows of writings by several programs, one behind the other."""

from handkept.errors import BadPrograms
from handkept.programs import Program
from handkept.stays import check_asked, is_always, is_wrong, stays
from handkept.values import is_integer, is_tuple_of


def row_stays(programs, sheet, label, rule, wish):
    """("always", tables), or ("wrong", i, j, elder_model, newer_model, way, fate) of the first pair that is wrong."""
    check_row(programs, sheet, label, rule, wish)
    tables = []
    for i, j in pairs(len(programs)):
        told = stays(programs[i], programs[j], sheet, label, rule, wish)
        if told[0] == "wrong":
            return ("wrong", i, j, *told[1:])
        tables.append(told[1])
    return ("always", tuple(tables))


def shows_row_stays(programs, sheet, label, rule, wish, value):
    """Whether any value is such a result of row_stays, right by itself."""
    check_row(programs, sheet, label, rule, wish)
    if is_tuple_of(value, 2) and value[0] == "always":
        places = pairs(len(programs))
        if not is_tuple_of(value[1], len(places)):
            return False
        return all([is_always(programs[i], programs[j], sheet, label, rule, wish, table)
                    for (i, j), table in zip(places, value[1])])
    if is_tuple_of(value, 7) and value[0] == "wrong":
        _, i, j, elder_model, newer_model, way, fate = value
        if not is_integer(i) or not is_integer(j) or (i, j) not in pairs(len(programs)):
            return False
        told = (elder_model, newer_model, way, fate)
        return is_wrong(programs[i], programs[j], sheet, label, rule, wish, told)
    return False


def pairs(many):
    """All pairs of places, the same one or the elder one ahead, in their sequence."""
    return [(i, j) for i in range(many) for j in range(i, many)]


def check_row(programs, sheet, label, rule, wish):
    """Refuses what cannot be asked."""
    if not is_tuple_of(programs, 2) and not is_tuple_of(programs, 3):
        raise BadPrograms(programs)
    if not all([isinstance(program, Program) for program in programs]):
        raise BadPrograms(programs)
    if not all([program.kinds == programs[0].kinds for program in programs]):
        raise BadPrograms(programs)
    labels = [one for one in programs[0].labels if all([one in program.labels for program in programs])]
    check_asked(programs[0], labels, sheet, label, rule, wish)
