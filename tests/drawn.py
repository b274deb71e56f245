"""Small programs, sheets and rules, drawn by a number: always the same ones for the same number."""

import random

from handkept.errors import BadText
from handkept.programs import Program

WORDS = ("p", "q")
LABELS = ("l", "m", "n", "o", "u", "v", "w", "y", "z", "aa", "bb", "cc", "dd", "ee", "ff")
CHANCES = {"begin": 0.15, "open": 0.6, "close": 0.25, "end": 0.15}


class Drawing:
    def __init__(self, number):
        self.chance = random.Random(number)
        self.kinds = []
        self.labels = []
        self.cells = []

    def draw_kinds(self):
        names = "abc"[:self.chance.choice([1, 1, 2, 2, 2, 3])]
        for at, name in enumerate(names):
            outer = self.chance.choice(names[:at]) if at and self.chance.random() < 0.7 else ""
            self.kinds.append((name, outer, ["x"] if self.chance.random() < 0.45 else []))

    def program(self, tokens, labels=LABELS):
        """A program of the kinds that were drawn, with lines of at most so many tokens."""
        while True:
            self.labels = list(labels)
            try:
                program = Program("\n".join(self.lines(tokens)))
            except BadText:
                continue
            if program.labels:
                return program

    def lines(self, tokens):
        lines = []
        for name, outer, fields in self.kinds:
            lines.append("kind " + name + (" in " + outer if outer else ""))
            lines += ["  field " + field for field in fields]
        for _ in range(self.chance.choice([1, 1, 2])):
            lines.append("pass")
            self.cells = []
            if self.chance.random() < 0.35:
                self.cells = [("c", self.chance.choice([2, 3]))]
                lines.append(f"  cell c {self.cells[0][1]}")
            places = [place for name, _, _ in self.kinds for place in (("open", name), ("close", name))]
            for place, kind in [("begin", ""), *places, ("end", "")]:
                if self.chance.random() < CHANCES[place]:
                    lines.append("  " + (place + " " + kind).strip())
                    lines += self.block(self.chain(kind), 2, 0, tokens)
        return lines

    def chain(self, kind):
        outer = {name: within for name, within, _ in self.kinds}
        return self.chain(outer[kind]) + [kind] if kind else []

    def refs(self, near):
        return [name + "." + field for name, _, fields in self.kinds if name in near for field in ["key", *fields]]

    def block(self, near, depth, ifs, tokens):
        lines = []
        for _ in range(self.chance.choice([1, 1, 2])):
            lines += self.statement(near, depth, ifs, tokens)
        return lines

    def statement(self, near, depth, ifs, tokens):
        blanks, drawn, refs = "  " * depth, self.chance.random(), self.refs(near)
        if drawn < 0.25 and ifs < 2 and (self.cells or refs):
            lines = [blanks + "if " + self.test(refs), *self.block(near, depth + 1, ifs + 1, tokens)]
            if self.chance.random() < 0.4:
                lines += [blanks + "else", *self.block(near, depth + 1, ifs + 1, tokens)]
            return lines
        if drawn < 0.4 and self.cells or not self.labels:
            return [f"{blanks}set c {self.chance.randrange(2)}"]
        told = [self.labels.pop(0)]
        if drawn < 0.6:
            told.append(self.chance.choice([*near, "-"]))
        for _ in range(self.chance.randint(1, tokens)):
            told.append(self.chance.choice(refs if refs and self.chance.random() < 0.65 else WORDS))
        return [blanks + ("head " if drawn < 0.6 else "line ") + " ".join(told)]

    def test(self, refs):
        if self.cells and (not refs or self.chance.random() < 0.5):
            return f"c = {self.chance.randrange(self.cells[0][1])}"
        return self.chance.choice(refs) + " is " + self.chance.choice(WORDS)

    def sheet(self):
        leaves = [(leave, name) for leave in ("come", "go") for name, _, _ in self.kinds]
        leaves += [("turn", name, field) for name, _, fields in self.kinds for field in fields]
        return tuple(sorted(leave for leave in leaves if self.chance.random() < 0.5))

    def rule(self):
        skipped = tuple(sorted(self.chance.sample(range(3), self.chance.choice([0, 0, 0, 1, 1, 2]))))
        return self.chance.choice(["first", "only"]), skipped, self.chance.choice(["", "", *WORDS])


def drawn_question(number):
    """(elder, newer, sheet, label, rule, wish)."""
    drawing = Drawing(number)
    drawing.draw_kinds()
    elder = newer = drawing.program(drawing.chance.choice([1, 2, 2, 3]))
    if drawing.chance.random() < 0.5:
        newer = drawing.program(2, drawing.chance.choice([elder.labels + ("z",), LABELS]))
    label = drawing.chance.choice(elder.labels)
    return elder, newer, drawing.sheet(), label, drawing.rule(), drawing.chance.choice(["kept", "kept", "true"])
