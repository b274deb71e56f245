"""The walk of one model, for one guess of the words of a line: which labels have lines of these words.

A member is (words, rows, cells, seen), as section 11 of the document tells it. A step is ("both", kind, classes,
classes), as for two models that are the same, ("close",) or ("end",).
"""

from handkept.classes import rows_of_classes, used_with
from handkept.forms import has_cells, has_classes, has_used
from handkept.sides import Hold, Side
from handkept.values import is_tuple_of

WHOLE = ("first", (), "")
AT_FIRST = ("", (), ())
CLOSE = ("close",)
END = ("end",)
MOST_SEEN = 2


class TwinWalk:
    """What comes of members with these words."""

    def __init__(self, words, program, uses):
        self.words = words
        self.program = program
        self.uses = uses
        self.side = Side(program, uses, Hold((words, ""), WHOLE))

    def first(self):
        """The list of the first members: just one."""
        cells = tuple([(0,) * len(part.worths) for part in self.program.parts])
        return [self.behind((AT_FIRST,), ("begin", ""), (), cells, ())]

    def behind(self, rows, block, words, cells, seen):
        """The member with these rows behind a block; words are the classes of the records that are open in it."""
        cells_behind, lines = self.side.run(block, cells, words)
        for _, label, fits, _ in lines:
            if fits and seen.count(label) < MOST_SEEN:
                seen = tuple(sorted([*seen, label]))
        return (self.words, rows, cells_behind, seen)

    def closed(self, member):
        """The list of (step, member) that comes by a close or the end: one, or none."""
        _, rows, cells, seen = member
        if rows == ():
            return []
        if len(rows) == 1:
            return [(END, self.behind((), ("end", ""), (), cells, seen))]
        block = ("close", rows[-1][0])
        return [(CLOSE, self.behind(rows[:-1], block, words_of(rows), cells, seen))]

    def opened(self, member):
        """The list of (step, member) that come as a record opens."""
        _, rows, cells, seen = member
        if rows == ():
            return []
        outer, outer_words, used = rows[-1]
        found = []
        for kind in self.uses.inner[outer]:
            for words in self.records_of(kind):
                now_used = used_with(used, kind, words[0])
                if now_used is not None:
                    own = (kind, self.side.lasting_words(kind, words), ())
                    ahead = rows[:-1] + ((outer, outer_words, now_used), own)
                    open_words = words_of(rows) + (words,)
                    behind = self.behind(ahead, ("open", kind), open_words, cells, seen)
                    found.append((("both", kind, words, words), behind))
        return found

    def records_of(self, kind):
        """The words of all such records, by their classes."""
        places = range(len(self.uses.fields[kind]))
        return rows_of_classes([[""] + self.side.words_named((kind, place)) for place in places])

    def has(self, rows, cells, seen):
        """Whether any values make a member with these words, by its form."""
        return self.has_rows(rows) and has_cells(self.program, cells) and self.has_seen(seen)

    def has_rows(self, rows):
        if rows == ():
            return True
        if not isinstance(rows, tuple) or not all([is_tuple_of(row, 3) for row in rows]):
            return False
        if rows[0][:2] != AT_FIRST[:2]:
            return False
        for ahead, row in zip(rows, rows[1:]):
            if row[0] not in self.uses.inner[ahead[0]] or not has_classes(self.side, row[0], row[1]):
                return False
        return all([has_used([self.side], row[0], row[2]) for row in rows])

    def has_seen(self, seen):
        if not isinstance(seen, tuple) or not all([label in self.program.labels for label in seen]):
            return False
        return seen == tuple(sorted(list(seen))) and all([seen.count(label) <= MOST_SEEN for label in seen])


def words_of(rows):
    """The classes of the records that are open, outermost first."""
    return tuple([row[1] for row in rows[1:]])
