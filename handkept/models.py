"""Models, and the lines that programs write of them."""

from handkept.errors import BadModel
from handkept.running import run_block
from handkept.words import is_word


def is_model(program, value):
    """Whether any value is a model of the program's kinds."""
    return _is_row(program.kinds, "", value)


def written(program, model):
    """The tuple of (way, words) of all lines, in their sequence."""
    if not is_model(program, model):
        raise BadModel(model)
    lines = []
    for part in program.parts:
        lines.extend(lines_of_part(part, model))
    return tuple(lines)


def text_of(program, model):
    """The text that the program writes of the model."""
    return "\n".join([" ".join(words) for _, words in written(program, model)])


def lines_of_part(part, model):
    """The list of (way, words) of the lines that one pass of a program writes."""
    return [line for step in steps_of_part(part, model) for line in step]


def steps_of_part(part, model):
    """The list of what one pass writes at each begin, open, close and end: lists of (way, words)."""
    writing = Writing(part)
    writing.go_through(model)
    return writing.steps


class Writing:
    """One pass through a model: steps are what was written so far, block by block."""

    def __init__(self, part):
        self.blocks = part.blocks
        self.cells = [0] * len(part.worths)
        self.steps = []

    def go_through(self, model):
        near = {"": ()}
        self.run("begin", "", near, {})
        self.go_through_row(model, "", near, {})
        self.run("end", "", near, {})

    def go_through_row(self, row, outer, near, words):
        for kind, own, inner in row:
            paths = {**near, kind: near[outer] + ((kind, own[0]),)}
            known = {**words, kind: own}
            self.run("open", kind, paths, known)
            self.go_through_row(inner, kind, paths, known)
            self.run("close", kind, paths, known)

    def run(self, place, kind, paths, words):
        """Runs a block, where paths and words are those of the open records, by their kinds."""
        lines = run_block(self.blocks[(place, kind)], self.cells, words)
        self.steps.append([((label, paths[head]), told) for label, head, told in lines])


def _is_row(kinds, outer, value):
    if not isinstance(value, tuple):
        return False
    if not all([_is_record(kinds, outer, record) for record in value]):
        return False
    names = [(kind, words[0]) for kind, words, _ in value]
    return len(set(names)) == len(names)


def _is_record(kinds, outer, value):
    if not isinstance(value, tuple) or len(value) != 3:
        return False
    kind, words, inner = value
    many = [len(fields) + 1 for name, within, fields in kinds if name == kind and within == outer]
    if not many or not isinstance(words, tuple) or len(words) != many[0]:
        return False
    return all([is_word(word) for word in words]) and _is_row(kinds, kind, inner)
