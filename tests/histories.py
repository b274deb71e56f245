"""Orders that are drawn for keepers: always the same ones for the same number."""

from handkept.errors import NotMade
from handkept.models import written

from tests.drawn import LABELS, Drawing
from tests.search import models

KEYS = ("p", "q", "f", "g", "h", "i")
DEEDS = (("ahead", ("x",)), ("behind", ("y", "z")), ("instead", ("w",)), ("strike",), ("ahead", ("u",)))


class History:
    """Leads a keeper through drawn changes: by a sheet, if one is given, so that no record comes again that went."""

    def __init__(self, drawing, keeper, sheet=None):
        self.drawing = drawing
        self.chance = drawing.chance
        self.keeper = keeper
        self.sheet = sheet
        self.kinds = keeper.program.kinds
        self.were = {path for path, _ in self.records()}

    def records(self):
        """All (path, record) of the model."""
        return list(flat(self.keeper.model))

    def may(self, *leave):
        return self.sheet is None or leave in self.sheet

    def change(self):
        self.chance.choice([self.come, self.come, self.go, self.turn, self.turn])()

    def come(self):
        records = self.records()
        path = self.chance.choice([(), *[path for path, _ in records]])
        row = next((record[2] for own, record in records if own == path), self.keeper.model)
        outer = path[-1][0] if path else ""
        kinds = [(name, fields) for name, within, fields in self.kinds if within == outer and self.may("come", name)]
        if not kinds or len(records) > 10:
            return
        name, fields = self.chance.choice(kinds)
        taken = self.were if self.sheet is not None else {own for own, _ in records}
        keys = [key for key in KEYS if path + ((name, key),) not in taken]
        if keys:
            key = self.chance.choice(keys)
            record = (name, (key, *[self.chance.choice(KEYS) for _ in fields]), ())
            self.keeper.come(path, self.chance.randint(0, len(row)), record)
            self.were.add(path + ((name, key),))

    def go(self):
        paths = [path for path, record in self.records() if self.may("go", record[0])]
        if paths:
            self.keeper.go(self.chance.choice(paths))

    def turn(self):
        turns = [(path, field) for path, record in self.records() for name, _, fields in self.kinds if name == record[0]
                 for field in fields if self.may("turn", name, field)]
        if turns:
            self.keeper.turn(*self.chance.choice(turns), self.chance.choice(KEYS))

    def edit(self, lines):
        """An edit at one of these lines, (way, words) of the text written last; nothing if it is not made."""
        if lines:
            way, _ = self.chance.choice(lines)
            try:
                return self.keeper.edit(way, self.drawing.rule(), self.chance.choice(DEEDS))
            except NotMade:
                pass
        return None

    def drop(self):
        if self.keeper.edits:
            self.keeper.drop(self.chance.choice(self.keeper.edits)[0])


def flat(row, path=()):
    for kind, words, inner in row:
        own = path + ((kind, words[0]),)
        yield own, (kind, words, inner)
        yield from flat(inner, own)


def lead(history, programs, many):
    """So many drawn orders of all sorts."""
    keeper = history.keeper
    lines = [(keeper.way_at(at), words) for at, words in enumerate(keeper.text)]
    for _ in range(many):
        drawn = history.chance.random()
        if drawn < 0.4:
            history.change()
        elif drawn < 0.6:
            history.keeper.write()
            lines = written(history.keeper.program, history.keeper.model)
        elif drawn < 0.85:
            history.edit(lines)
        elif drawn < 0.92:
            history.keeper.exchange(history.chance.choice(programs))
        else:
            history.drop()


def drawn_model(drawing, program, many=3):
    """A model of at most so many records."""
    found = models(program, drawing.chance.randint(0, many), ("p", "f"))
    return drawing.chance.choice(found) if found else ()


def drawn_programs(number):
    """A drawing, and two programs of its kinds."""
    drawing = Drawing(number)
    drawing.draw_kinds()
    elder = drawing.program(drawing.chance.choice([1, 2, 2, 3]))
    return drawing, elder, drawing.program(2, drawing.chance.choice([elder.labels, elder.labels + ("z",), LABELS]))
