"""The walk of an elder and a newer model, for one guess of what the edit remembers.

A member is (guess, rows, cells, state), as section 8 of the document tells it. A step is (which, kind, words,
words of the newer), ("close",) or ("end",); words are the classes of a record.
"""

from handkept.classes import rows_of_classes, used_with
from handkept.sides import Hold, Side

AT_FIRST = ("", "", (), (), ())
CLOSE = ("close",)
END = ("end",)


class EditWalk:
    """What comes of members with this guess. sides are those of the elder and of the newer program."""

    def __init__(self, guess, programs, several, sheet, rule, judge):
        hold = Hold(guess, rule)
        self.guess = guess
        self.sides = [Side(program, uses, hold) for program, uses in zip(programs, several)]
        self.inner = several[0].inner
        self.fields = several[0].fields
        self.sheet = sheet
        self.judge = judge
        self.records = {}

    def first(self):
        """The list of the first members: one, or none."""
        cells = tuple([tuple([(0,) * len(part.worths) for part in side.program.parts]) for side in self.sides])
        state = self.judge.first_state(self.guess[1])
        behind = self.behind(("begin", ""), (True, True), ((), ()), cells, state)
        return self.members((AT_FIRST,), behind)

    def members(self, rows, behind):
        """The list of the member with these rows, where something comes of the step."""
        if behind is None or self.judge.is_dropped(behind[1], rows):
            return []
        return [(self.guess, rows, *behind)]

    def behind(self, block, is_there, words, cells, state):
        """(cells, state) behind a block of those programs that have it, None if nothing comes of it."""
        behind = list(cells)
        for number, side in enumerate(self.sides):
            if is_there[number]:
                behind[number], lines = side.run(block, cells[number], words[number])
                if lines:
                    state = self.judge.after_newer(state, lines) if number else self.judge.after_elder(state, lines)
                if state is None:
                    return None
        return (tuple(behind), state)

    def closed(self, member):
        """The list of (step, member) that comes by a close or the end: one, or none."""
        _, rows, cells, state = member
        if rows == ():
            return []
        if len(rows) > 1:
            return [(CLOSE, behind) for behind in self.closed_record(rows, cells, state)]
        if state[0] == "before":
            return []
        behind = self.behind(("end", ""), (True, True), ((), ()), cells, state)
        return [(END, done) for done in self.members((), behind)]

    def closed_record(self, rows, cells, state):
        which, kind, _, _, _ = rows[-1]
        words = (words_of(rows[1:], 2), words_of(rows[1:], 3))
        behind = self.behind(("close", kind), there(which), words, cells, state)
        if behind is not None and kind == self.judge.kind and behind[1][0] == "open":
            behind = (behind[0], ("past",) + behind[1][1:])
        return self.members(rows[:-1], behind)

    def opened(self, member):
        """The list of (step, member) that come as a record opens."""
        _, rows, _, _ = member
        if rows == ():
            return []
        outer_which, outer, elder, newer, used = rows[-1]
        found = []
        for kind in self.inner[outer]:
            for which in self.whiches(outer_which, kind):
                for step, own, key in self.records_of(which, kind):
                    now_used = used_with(used, kind, key)
                    if now_used is not None:
                        ahead = rows[:-1] + ((outer_which, outer, elder, newer, now_used), own)
                        found.extend([(step, behind) for behind in self.opened_by(step, ahead, member)])
        return found

    def opened_by(self, step, rows, member):
        """The list of the members with these rows that come by this step."""
        which, kind, elder, newer = step
        _, outer_rows, cells, state = member
        words = (words_of(outer_rows[1:], 2) + (elder,), words_of(outer_rows[1:], 3) + (newer,))
        states = [state]
        if state[0] == "before" and kind == self.judge.kind and which != "come":
            states.append(("open",) + state[1:])
        found = []
        for ahead in states:
            behind = self.behind(("open", kind), there(which), words, cells, ahead)
            found.extend(self.members(rows, behind))
        return found

    def whiches(self, outer_which, kind):
        """In which models a record of this kind may stand, in a row of these models."""
        if outer_which in ("gone", "come"):
            return [outer_which]
        return ["both"] + [which for which, leave in (("gone", "go"), ("come", "come")) if (leave, kind) in self.sheet]

    def records_of(self, which, kind):
        """All (step, row that is opened, key) of such records; key is that of one of both that is not ""."""
        if (which, kind) not in self.records:
            self.records[(which, kind)] = self.records_anew(which, kind)
        return self.records[(which, kind)]

    def records_anew(self, which, kind):
        sorts = [self.classes(which, kind, place) for place in range(len(self.fields[kind]))]
        elder_side, newer_side = [side.names() for side in self.sides]
        records = []
        for row in rows_of_classes(sorts):
            elder = tuple([pair[0] for pair in row]) if which != "come" else ()
            newer = tuple([pair[1] for pair in row]) if which != "gone" else ()
            own = (which, kind, elder_side.lasting_words(kind, elder), newer_side.lasting_words(kind, newer), ())
            records.append(((which, kind, elder, newer), own, row[0][0] or row[0][1]))
        return records

    def classes(self, which, kind, place):
        """All (class in elder, class in newer) of a word of such records, "" in the one that does not have it."""
        ref = (kind, place)
        named = [side.names().words_named(ref) if is_there else [] for side, is_there in zip(self.sides, there(which))]
        if ("turn", kind, self.fields[kind][place]) in self.sheet:
            return [(word, newer_word) for word in [""] + named[0] for newer_word in [""] + named[1]]
        either = [""] + named[0] + [word for word in named[1] if word not in named[0]]
        return [(word if word in named[0] else "", word if word in named[1] else "") for word in either]


def there(which):
    """Whether a record stands in the elder model, and in the newer one."""
    return (which != "come", which != "gone")


def words_of(rows, place):
    """The classes of the records of these rows, outermost first: in elder at place 2, in newer at place 3."""
    return tuple([row[place] for row in rows])
