"""A second keeper, written apart from the package's: it goes through all its orders anew whenever it is asked."""

from handkept.models import written


class Unmade(Exception):
    pass


def titled(program, model, under):
    """All (way, words, title), by section 7."""
    lines = []
    passes = {label: number for number, part in enumerate(program.text.split("\npass")[1:])
              for label in program.labels if any(f" {word} {label} " in part + " " for word in ("line", "head"))}
    for number in range(program.passes):
        title = ""
        for way, words in written(program, model):
            if passes[way[0]] == number:
                lines.append((way, words, title))
                if under and words[0] == under:
                    title = words[1] if len(words) > 1 else ""
    return lines


def fitting(lines, memory, skipped):
    words, title = memory
    return [at for at, (_, own, heading) in enumerate(lines)
            if len(own) == len(words) and heading == title
            and all(own[place] == words[place] for place in range(len(own)) if place not in skipped)]


def found(lines, memory, rule):
    numbers = fitting(lines, memory, rule[1])
    if rule[0] == "only" and len(numbers) != 1:
        return None
    return numbers[0] if numbers else None


def first(lines, way):
    return next((at for at, line in enumerate(lines) if line[0] == way), None)


class PlainKeeper:
    def __init__(self, program, model, orders):
        self.program, self.model = program, model
        self.writer, self.source = program, model
        self.hanging, self.made, self.writings, self.wrongs, self.told = {}, 0, 0, [], []
        for order in orders:
            self.told.append(getattr(self, order[0])(*order[1:]))
        self.lines = [words for _, words in written(self.writer, self.source)]

    def row(self, path):
        """The list of the model's records, and in it that of the record with this path."""
        model = row = thawed(self.model)
        for name in path:
            row = next(record[2] for record in row if (record[0], record[1][0]) == name)
        return model, row

    def place(self, row, name):
        return next(at for at, record in enumerate(row) if (record[0], record[1][0]) == name)

    def come(self, path, place, record):
        model, row = self.row(path)
        row.insert(place, record)
        self.model = frozen(model)

    def go(self, path):
        model, row = self.row(path[:-1])
        del row[self.place(row, path[-1])]
        self.model = frozen(model)

    def turn(self, path, field, word):
        model, row = self.row(path[:-1])
        at = self.place(row, path[-1])
        place = 1 + next(fields for name, _, fields in self.program.kinds if name == path[-1][0]).index(field)
        words = list(row[at][1])
        words[place] = word
        row[at] = (row[at][0], tuple(words), row[at][2])
        self.model = frozen(model)

    def exchange(self, newer):
        self.program = newer

    def edit(self, way, rule, deed):
        lines = titled(self.writer, self.source, rule[2])
        at = first(lines, way)
        if at is None or found(lines, lines[at][1:], rule) != at:
            raise Unmade(self.writings, self.made)
        self.hanging[self.made] = [way, rule, deed, lines[at][1:], at]
        self.made += 1
        return self.made - 1

    def drop(self, number):
        del self.hanging[number]

    def write(self):
        told = []
        self.writer, self.source = self.program, self.model
        for number, edit in self.hanging.items():
            way, rule, _, memory, _ = edit
            lines = titled(self.writer, self.source, rule[2])
            at, meant = found(lines, memory, rule), first(lines, way)
            fate = ("gone" if meant is None else "lost") if at is None else "kept" if at == meant else "astray"
            if at is not None:
                edit[0], edit[3] = lines[at][0], lines[at][1:]
            edit[4] = at
            told.append((number, fate, at))
            if fate in ("lost", "astray"):
                self.wrongs.append((self.writings, number, fate))
        self.writings += 1
        return tuple(told)

    def edits(self):
        return tuple((number, *edit[:3]) for number, edit in self.hanging.items())

    def edited(self):
        lines = []
        for at, words in enumerate(self.lines):
            deeds = [edit[2] for edit in self.hanging.values() if edit[4] == at]
            own = next((deed[1:] for deed in deeds if deed[0] in ("instead", "strike")), (words,))
            lines += [deed[1] for deed in deeds if deed[0] == "ahead"]
            lines += own
            lines += [deed[1] for deed in deeds if deed[0] == "behind"]
        return tuple(lines)


def thawed(row):
    return [(kind, words, thawed(inner)) for kind, words, inner in row]


def frozen(row):
    return tuple((record[0], record[1], frozen(record[2])) for record in row)


def first_wrong(program, model, orders):
    """The first wrong of orders, an edit that is not made one too."""
    for many in range(len(orders) + 1):
        try:
            wrongs = PlainKeeper(program, model, orders[:many]).wrongs
        except Unmade as unmade:
            return (*unmade.args, "unmade")
        if wrongs:
            return wrongs[0]
    return None
