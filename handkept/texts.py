"""Models as texts: a line for each record, its inner records below it, two blanks deeper."""

from handkept.errors import BadModel, BadText
from handkept.lines import BLANKS, Lines
from handkept.models import is_model
from handkept.words import is_word


def show_model(program, model):
    """The text of a model."""
    if not is_model(program, model):
        raise BadModel(model)
    return "\n".join(lines_of_row(model))


def read_model(program, text):
    """The model with this text."""
    if not isinstance(text, str):
        raise BadText(0)
    # The empty text has no lines, not one that is empty.
    return RecordReader(program, text.split("\n") if text else []).all_records()


def lines_of_row(row):
    lines = []
    for kind, words, inner in row:
        lines.append(" ".join([kind, *words]))
        lines.extend(deeper(lines_of_row(inner)))
    return lines


def deeper(lines):
    """Lines that stand below another one."""
    return [" " * BLANKS + line for line in lines]


class RecordReader(Lines):
    """Reads lines of records of the program's kinds."""

    def __init__(self, program, lines):
        super().__init__(lines)
        self.kinds = program.kinds

    def all_records(self):
        """The model of which these are the lines."""
        model = self.read_row("", 0)
        self.need(self.at == len(self.lines))
        return model

    def one_record(self, outer):
        """The record of which these are the lines, of a kind in this one."""
        record = self.read_record(outer, 0, [])
        self.need(self.at == len(self.lines))
        return record

    def read_row(self, outer, depth):
        row = []
        while self.words_at(depth):
            row.append(self.read_record(outer, depth, row))
        return tuple(row)

    def read_record(self, outer, depth, row):
        """The record that comes next, behind these of its row."""
        words = self.words_at(depth)
        self.need(all([is_word(word) for word in words]))
        self.need((len(words) - 2) in [len(fields) for name, within, fields in self.kinds
                                       if [name] == words[:1] and within == outer])
        kind, *own = words
        self.need((kind, own[0]) not in [(record[0], record[1][0]) for record in row])
        self.at += 1
        return (kind, tuple(own), self.read_row(kind, depth + 1))
