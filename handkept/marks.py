"""Programs with marks: keys and labels that are written behind lines."""

from handkept.errors import BadMarks, BadText
from handkept.programs import Program
from handkept.values import is_ascending, is_tuple_of


def with_marks(program, marks):
    """The program with the tokens of key and name marks behind its lines."""
    if not isinstance(marks, tuple) or not all([is_line_mark(program, mark) for mark in marks]):
        raise BadMarks(marks)
    if not is_ascending(marks):
        raise BadMarks(marks)
    try:
        return Program(_marked_text(program.text, marks))
    except BadText:
        raise BadMarks(marks) from None


def is_line_mark(program, value):
    """Whether any value is a key or a name mark, of a label and a kind of the program."""
    if is_tuple_of(value, 3):
        return value[0] == "key" and value[1] in program.labels and value[2] in [kind[0] for kind in program.kinds]
    return is_tuple_of(value, 2) and value[0] == "name" and value[1] in program.labels


def _marked_text(text, marks):
    lines = []
    for line in text.split("\n"):
        words = line.split()
        if words[0] in ("line", "head"):
            tokens = [_token_of(mark) for mark in marks if mark[1] == words[1]]
            line = " ".join([line, *tokens])
        lines.append(line)
    return "\n".join(lines)


def _token_of(mark):
    return mark[2] + ".key" if mark[0] == "key" else mark[1]
