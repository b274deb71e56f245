"""Texts of programs that several tests use."""

from handkept.programs import Program

TOWNS = (
    "kind town\n"
    "kind shop in town\n"
    "  field owner\n"
    "pass\n"
    "  open town\n"
    "    line t town.key\n"
    "  open shop\n"
    "    line s shop.key shop.owner"
)


def text_with(*blocks, kinds=("kind a", "  field x", "  field y", "kind b in a", "kind c")):
    """A text of these kinds and one pass; a block is (its heading, its statements ..), all without blanks ahead."""
    lines = [*kinds, "pass"]
    for heading, *statements in blocks:
        lines.append("  " + heading)
        lines.extend("    " + statement for statement in statements)
    return "\n".join(lines)


def program_with(*blocks, **kinds):
    return Program(text_with(*blocks, **kinds))


# What any value may be; none of these is a text of a program, a model, or a record.
ODD_VALUES = (
    None, True, False, 0, 1, -1, [], ["kind a", "pass"], ["a"], {}, {"a": ("b",)}, {1: [None]},
    (None,), (0,), (True,), ("a",), ((),), ([],), ([[[{}]]],),
)


def nested(depth):
    """Values of each sort that are nested so deep."""
    row, record, table = (), [], {}
    for _ in range(depth - 1):
        row, record, table = (row,), [record], {"a": table}
    return row, record, table
