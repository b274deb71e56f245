"""Reads the text of a program.

A statement is read as one of these tuples:

- ("write", label, kind, tokens): a line or a head; its way has the path of the open record of this kind,
  () if kind is "";
- ("set", cell, worth): cell is the number of the cell in its pass;
- ("cell", cell, worth, then, other): an if of a cell; then and other are tuples of statements, other those
  of the else;
- ("word", ref, word, then, other): an if of a REF.

A REF is (kind, place), the place among the words of a record of this kind (0 is the key). A token is a REF,
or ("", word).
"""

from handkept.lines import Lines
from handkept.words import is_word

MOST_KINDS = 4
MOST_KINDS_IN_ONE_ANOTHER = 3
MOST_FIELDS = 2
MOST_PASSES = 2
MOST_CELLS = 2
MOST_STATEMENTS = 6
MOST_IFS_IN_ONE_ANOTHER = 2
MOST_TOKENS = 6
WORTHS = ("2", "3")


class Part:
    """A pass: worths tells how many of them each cell has.

    blocks has the statements, () where there are none, by ("begin", ""), ("open", kind), ("close", kind),
    ("end", "").
    """

    def __init__(self, worths, blocks):
        self.worths = worths
        self.blocks = blocks


class ProgramReader(Lines):
    """Reads a program: kinds and labels as a Program tells them, and its parts."""

    def __init__(self, text):
        super().__init__(text.split("\n"))
        self.kinds = []
        self.chains = {}
        self.fields = {}
        self.labels = []
        self.parts = []
        self.cells = []
        self.worths = []
        self.near = ()

    def read(self):
        while self.begins(0, "kind"):
            self.read_kind(self.words_at(0))
        self.need(len(self.kinds) > 0)
        while self.words_at(0) == ["pass"] and len(self.parts) < MOST_PASSES:
            self.at += 1
            self.read_part()
        self.need(len(self.parts) > 0 and self.at == len(self.lines))

    def read_kind(self, words):
        self.need(len(self.kinds) < MOST_KINDS and len(words) in (2, 4))
        name = words[1]
        self.need(is_word(name) and name not in self.chains)
        outer = ""
        if len(words) == 4:
            outer = words[3]
            self.need(words[2] == "in" and outer in self.chains)
            self.need(len(self.chains[outer]) < MOST_KINDS_IN_ONE_ANOTHER)
        self.at += 1
        fields = self.read_fields()
        self.kinds.append((name, outer, tuple(fields)))
        self.chains[name] = self.chains.get(outer, ()) + (name,)
        self.fields[name] = ["key"] + fields

    def read_fields(self):
        fields = []
        while words := self.words_at(1):
            self.need(len(fields) < MOST_FIELDS and len(words) == 2 and words[0] == "field")
            self.need(is_word(words[1]) and words[1] != "key" and words[1] not in fields)
            fields.append(words[1])
            self.at += 1
        return fields

    def read_part(self):
        self.cells = []
        self.worths = []
        while self.begins(1, "cell"):
            self.read_cell(self.words_at(1))
        blocks = {}
        for place, kind in self.places():
            self.near = self.chains.get(kind, ())
            blocks[(place, kind)] = ()
            if self.words_at(1) == ([place, kind] if kind else [place]):
                self.at += 1
                blocks[(place, kind)] = self.read_block(2, 0)
        self.parts.append(Part(tuple(self.worths), blocks))

    def places(self):
        """What may stand in a pass behind the cells, in this sequence."""
        places = [("begin", "")]
        for name, _, _ in self.kinds:
            places.extend([("open", name), ("close", name)])
        return places + [("end", "")]

    def read_cell(self, words):
        self.need(len(self.cells) < MOST_CELLS and len(words) == 3)
        self.need(is_word(words[1]) and words[1] not in self.cells and words[2] in WORTHS)
        self.cells.append(words[1])
        self.worths.append(int(words[2]))
        self.at += 1

    def read_block(self, depth, ifs):
        """Statements that stand so deep, in so many ifs."""
        statements = []
        while words := self.words_at(depth):
            self.need(len(statements) < MOST_STATEMENTS)
            statements.append(self.read_statement(words, depth, ifs))
        self.need(len(statements) > 0)
        return tuple(statements)

    def read_statement(self, words, depth, ifs):
        if words[0] == "if":
            return self.read_if(words, depth, ifs)
        if words[0] == "line":
            statement = self.line_statement(words)
        elif words[0] == "head":
            statement = self.head_statement(words)
        else:
            self.need(words[0] == "set" and len(words) == 3)
            statement = ("set", *self.cell_worth(words[1], words[2]))
        self.at += 1
        return statement

    def read_if(self, words, depth, ifs):
        self.need(ifs < MOST_IFS_IN_ONE_ANOTHER and len(words) == 4)
        if words[2] == "=":
            test = ("cell", *self.cell_worth(words[1], words[3]))
        else:
            self.need(words[2] == "is" and is_word(words[3]))
            test = ("word", self.ref_of(words[1]), words[3])
        self.at += 1
        then = self.read_block(depth + 1, ifs + 1)
        other = ()
        if self.words_at(depth) == ["else"]:
            self.at += 1
            other = self.read_block(depth + 1, ifs + 1)
        return (*test, then, other)

    def line_statement(self, words):
        self.need(len(words) > 2)
        own = self.near[-1] if self.near else ""
        return self.write_statement(words[1], own, words[2:])

    def head_statement(self, words):
        self.need(len(words) > 3)
        self.need(words[2] == "-" or words[2] in self.near)
        kind = "" if words[2] == "-" else words[2]
        return self.write_statement(words[1], kind, words[3:])

    def write_statement(self, label, kind, tokens):
        self.need(is_word(label) and label not in self.labels and len(tokens) <= MOST_TOKENS)
        read = [("", token) if is_word(token) else self.ref_of(token) for token in tokens]
        self.labels.append(label)
        return ("write", label, kind, tuple(read))

    def cell_worth(self, cell, digit):
        """The number of a cell of this pass, and one of its worths."""
        self.need(cell in self.cells)
        number = self.cells.index(cell)
        self.need(digit in [str(worth) for worth in range(self.worths[number])])
        return (number, int(digit))

    def ref_of(self, text):
        """A REF of a kind that is open here."""
        kind, _, field = text.partition(".")
        self.need(kind in self.near and field in self.fields[kind])
        return (kind, self.fields[kind].index(field))
