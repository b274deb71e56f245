"""Second walkers of two models by one program, and of one model by two programs: slow, by the words of sections 12
and 13 alone, written apart from the package's."""

import itertools

from tests.plain_walk import Text, is_ref, parted, table_of


def lines_in(text, heading, cells, classes):
    """(cells behind a block, {label: tokens}); classes has the class of each REF."""
    cells = [list(worths) for worths in cells]
    lines = {}
    for (names, blocks), worths in zip(text.passes, cells):
        waiting = list(blocks.get(heading, ()))
        while waiting:
            words, then, other = waiting.pop(0)
            if words[0] == "set":
                worths[names.index(words[1])] = int(words[2])
            elif words[0] == "if":
                own = str(worths[names.index(words[1])]) if words[2] == "=" else classes[words[1]]
                waiting = (then if own == words[3] else other) + waiting
            else:
                label, _, tokens = parted(words, heading)
                lines[label] = tokens
    return tuple(tuple(worths) for worths in cells), lines


def like(token, other, classes, newer, turned):
    """Whether two tokens are the same, where this REF turns."""
    if token == other:
        return token != turned or classes[token] == newer[other] != ""
    words = [own[one] if is_ref(one) else one for one, own in ((token, classes), (other, newer))]
    return words[0] == words[1] != ""


def unlike_labels(labels, lines, newer_lines, classes, newer, turned):
    found = []
    for label in labels:
        one, other = lines.get(label), newer_lines.get(label)
        if one is None or other is None:
            found += [label] if one != other else []
        elif len(one) != len(other) or not all(like(*pair, classes, newer, turned) for pair in zip(one, other)):
            found.append(label)
    return found


class PlainPairs:
    """What both walkers have: named words and lasting REFs, by these programs."""

    def __init__(self, *programs):
        self.texts = [Text(program) for program in programs]
        self.labels = programs[0].labels

    def naming(self, ref):
        return [(word, heading) for text in self.texts for own, word, heading in text.tests if own == ref]

    def named(self, ref):
        return sorted({word for word, _ in self.naming(ref)})

    def is_later(self, ref, heading):
        kind = ref.split(".")[0]
        return heading == ("close", kind) or len(heading) > 1 and kind in self.texts[0].chain(heading[1])[:-1]

    def lasts(self, ref):
        return any(self.is_later(ref, heading) for _, heading in self.naming(ref))

    def worths(self, kind):
        """The classes of all words of records of a kind."""
        return itertools.product(*[["", *self.named(ref)] for ref in self.texts[0].refs(kind)])

    def kept(self, kind, words):
        return tuple(word if self.lasts(ref) else "" for ref, word in zip(self.texts[0].refs(kind), words))

    def classes(self, records):
        return {ref: word for kind, words in records for ref, word in zip(self.texts[0].refs(kind), words)}

    def inner(self, outer):
        return [kind for kind, (within, _) in self.texts[0].kinds.items() if within == outer]

    def table(self, most):
        return table_of(self, most)


def used_behind(used, kind, key):
    """What is used then, None if the key is used already."""
    if (kind, key) in used:
        return None
    return tuple(sorted(used + (((kind, key),) if key else ())))


class PlainSame(PlainPairs):
    def lasts(self, ref):
        tokens = any(ref in tokens and self.is_later(ref, heading)
                     for text in self.texts for _, _, tokens, _, heading in text.lines)
        return super().lasts(ref) or tokens and self.named(ref) != []

    def step(self, rows, records, cells, labels, heading):
        classes = self.classes(records)
        told = [lines_in(text, heading, own, classes) for text, own in zip(self.texts, cells)]
        unlike = unlike_labels(self.labels, told[0][1], told[1][1], classes, classes, None)
        return rows, tuple(own for own, _ in told), tuple(sorted({*labels, *unlike}))

    def first(self):
        cells = [[[0] * len(names) for names, _ in text.passes] for text in self.texts]
        return [self.step((("", (), ()),), [], cells, (), ("begin",))]

    def behind(self, member):
        rows, cells, labels = member
        if rows == ():
            return []
        records = [row[:2] for row in rows[1:]]
        outer, words, used = rows[-1]
        heading = ("close", outer) if outer else ("end",)
        found = [self.step(rows[:-1], records, cells, labels, heading)]
        for kind in self.inner(outer):
            for own in self.worths(kind):
                now = used_behind(used, kind, own[0])
                if now is not None:
                    ahead = (*rows[:-1], (outer, words, now), (kind, self.kept(kind, own), ()))
                    found.append(self.step(ahead, [*records, (kind, own)], cells, labels, ("open", kind)))
        return found


class PlainTouched(PlainPairs):
    def __init__(self, program, kind, field):
        super().__init__(program)
        self.kind = kind
        self.ref = kind + "." + field
        self.place = self.texts[0].refs(kind).index(self.ref)

    def step(self, rows, records, cells, phase, labels, heading):
        classes, newer = [self.classes([(record[1], record[at]) for record in records]) for at in (2, 3)]
        turned = self.ref if any(record[0] for record in records) else None
        told = [lines_in(self.texts[0], heading, own, worths) for own, worths in zip(cells, (classes, newer))]
        unlike = unlike_labels(self.labels, told[0][1], told[1][1], classes, newer, turned)
        return rows, tuple(own for own, _ in told), phase, tuple(sorted({*labels, *unlike}))

    def first(self):
        cells = [[[0] * len(names) for names, _ in self.texts[0].passes]] * 2
        return [self.step(((False, "", (), (), ()),), [], cells, "ahead", (), ("begin",))]

    def behind(self, member):
        rows, cells, phase, labels = member
        if rows == ():
            return []
        records = [row[:4] for row in rows[1:]]
        is_turned, outer, words, newer, used = rows[-1]
        found = []
        if outer:
            behind = "behind" if is_turned else phase
            found.append(self.step(rows[:-1], records, cells, behind, labels, ("close", outer)))
        elif phase != "ahead":
            found.append(self.step((), [], cells, phase, labels, ("end",)))
        for kind in self.inner(outer):
            for record in self.records(kind, phase):
                now = used_behind(used, kind, record[2][0])
                if now is not None:
                    kept = [self.kept(kind, own) for own in record[2:]]
                    ahead = (*rows[:-1], (is_turned, outer, words, newer, now), (*record[:2], *kept, ()))
                    behind = "within" if record[0] else phase
                    found.append(self.step(ahead, [*records, record], cells, behind, labels, ("open", kind)))
        return found

    def records(self, kind, phase):
        for own in self.worths(kind):
            yield False, kind, own, own
            if kind == self.kind and phase == "ahead":
                for other in self.worths(kind):
                    rest = [one == two for at, (one, two) in enumerate(zip(own, other)) if at != self.place]
                    if all(rest) and (own[self.place] != other[self.place] or own[self.place] == ""):
                        yield True, kind, own, other
