"""Where a program uses the words of records: in tests, and as tokens of lines."""


class Uses:
    """What stands in the blocks of a program.

    tests are all (REF, word, block), writes all (number of the pass, label, kind, tokens, block), as
    handkept/reading.py tells their parts; a block is (place, kind). inner has the kinds that are in a kind,
    by its name, "" for those that are in none; chains the kinds from the outermost one to a kind; fields the
    names of the words of a record, key ahead.
    """

    def __init__(self, program):
        self.passes = program.passes
        self.tests = []
        self.writes = []
        for number, part in enumerate(program.parts):
            for block, statements in part.blocks.items():
                self.go_through(number, block, statements)
        self.inner = {"": []}
        self.chains = {"": ()}
        self.fields = {}
        for name, outer, fields in program.kinds:
            self.inner[outer].append(name)
            self.inner[name] = []
            self.chains[name] = self.chains[outer] + (name,)
            self.fields[name] = ("key",) + fields

    def go_through(self, number, block, statements):
        for statement in statements:
            if statement[0] == "write":
                self.writes.append((number, *statement[1:], block))
            elif statement[0] != "set":
                if statement[0] == "word":
                    self.tests.append((statement[1], statement[2], block))
                self.go_through(number, block, statement[3])
                self.go_through(number, block, statement[4])

    def line_of(self, label):
        """(number of the pass, kind, tokens) of the line with this label, None without one."""
        for number, own, kind, tokens, _ in self.writes:
            if own == label:
                return (number, kind, tokens)
        return None


def is_ref(token):
    """Whether a token is a REF, not a word."""
    return token[0] != ""
