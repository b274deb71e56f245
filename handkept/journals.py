"""Reads journals of keepers."""

from handkept.errors import BadText
from handkept.keeper import Keeper
from handkept.lines import BLANKS, Lines
from handkept.programs import Program
from handkept.texts import RecordReader
from handkept.wordings import read_number, read_order, read_path


def read_journal(text):
    """The keeper with this journal."""
    if not isinstance(text, str):
        raise BadText(0)
    reader = JournalReader(text.split("\n"))
    # The text is read as a whole ahead of the first order.
    reader.read()
    keeper = Keeper(reader.program, reader.model)
    for order in reader.orders:
        keeper.do(order)
    return keeper


class JournalReader(Lines):
    """Reads the lines of a journal: the first program and model, and the orders."""

    def __init__(self, lines):
        super().__init__(lines)
        self.program = None
        self.model = ()
        self.orders = []

    def read(self):
        self.read_heading("program")
        self.program = self.read_program(1)
        self.read_heading("model")
        self.model = self.read_below(1, lambda lines: RecordReader(self.program, lines).all_records())
        self.read_heading("orders")
        while self.at < len(self.lines):
            self.orders.append(self.next_order(self.words_at(1)))

    def read_heading(self, word):
        self.need(self.words_at(0) == [word])
        self.at += 1

    def next_order(self, words):
        self.need(len(words) > 0)
        if words[0] == "come":
            return self.read_come(words)
        if words == ["exchange"]:
            self.at += 1
            return ("exchange", self.read_program(2))
        order = read_order(words)
        self.need(order is not None)
        self.at += 1
        return order

    def read_come(self, words):
        self.need(len(words) == 3)
        path, place = (read_path(words[1]), read_number(words[2]))
        self.need(path is not None and place is not None)
        self.at += 1
        outer = path[-1][0] if path else ""
        record = self.read_below(2, lambda lines: RecordReader(self.program, lines).one_record(outer))
        return ("come", path, place, record)

    def read_program(self, depth):
        return self.read_below(depth, lambda lines: Program("\n".join(lines)))

    def read_below(self, depth, told_by):
        """What is told by the lines that come next, as far as they stand so deep or deeper.

        They are told without these blanks. The line that comes behind them is the wrong one if some are missing.
        """
        lines = self.block(depth)
        try:
            told = told_by(lines)
        except BadText as wrong:
            raise BadText(self.at + wrong.line) from None
        self.at += len(lines)
        return told

    def block(self, depth):
        lines = []
        for blanks, words in self.lines[self.at:]:
            if blanks < BLANKS * depth:
                break
            lines.append(" " * (blanks - BLANKS * depth) + " ".join(words))
        return lines
