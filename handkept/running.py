"""Runs the statements of a program."""


def run_block(statements, cells, words):
    """The lines that statements write, each (label, kind, words): kind as in a "write" statement.

    cells is the list of the worths of the pass's cells, which is changed; words has the words of each open
    record, by its kind.
    """
    lines = []
    for statement in statements:
        if statement[0] == "write":
            _, label, kind, tokens = statement
            lines.append((label, kind, _worths(tokens, words)))
        elif statement[0] == "set":
            cells[statement[1]] = statement[2]
        else:
            lines.extend(run_block(_branch(statement, cells, words), cells, words))
    return lines


def run_passes(program, block, cells, words):
    """What a block of each pass writes: (cells behind it, lines), each line (number of the pass, label, words).

    cells has, for each pass, the worths of its cells.
    """
    behind = []
    lines = []
    for number, part in enumerate(program.parts):
        worths = list(cells[number])
        lines.extend([(number, label, told) for label, _, told in run_block(part.blocks[block], worths, words)])
        behind.append(tuple(worths))
    return (tuple(behind), lines)


def _worths(tokens, words):
    return tuple([words[kind][what] if kind else what for kind, what in tokens])


def _branch(statement, cells, words):
    form, asked, worth, then, other = statement
    if form == "cell":
        holds = cells[asked] == worth
    else:
        kind, place = asked
        holds = words[kind][place] == worth
    return then if holds else other
