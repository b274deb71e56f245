"""The walk of one model, for one guess of the words of a line: which labels have lines of these words.

A member is (words, rows, cells, seen), as section 11 of the document tells it. A step is ("both", kind, classes,
classes), ("close",) or ("end",).
"""

from handkept.forms import has_cells
from handkept.onemodel import AT_FIRST, closed_rows, has_rows, opened_rows
from handkept.sides import Hold, Side

WHOLE = ("first", (), "")
MOST_SEEN = 2


class TwinWalk:
    """What comes of members with these words."""

    def __init__(self, words, program, uses):
        self.words = words
        self.program = program
        self.side = Side(program, uses, Hold((words, ""), WHOLE))

    def first(self):
        """The list of the first members: just one."""
        cells = tuple([(0,) * len(part.worths) for part in self.program.parts])
        return [self.behind((AT_FIRST,), ("begin", ""), (), cells, ())]

    def behind(self, rows, block, words, cells, seen):
        """The member with these rows behind a block; words are the classes of the records that are open in it."""
        cells_behind, lines = self.side.run(block, cells, words)
        for _, label, fits, _ in lines:
            if fits and seen.count(label) < MOST_SEEN:
                seen = tuple(sorted([*seen, label]))
        return (self.words, rows, cells_behind, seen)

    def closed(self, member):
        """The list of (step, member) that comes by a close or the end: one, or none."""
        return self.members(closed_rows(member[1]), member)

    def opened(self, member):
        """The list of (step, member) that come as a record opens."""
        return self.members(opened_rows(self.side.names(), member[1]), member)

    def members(self, steps, member):
        _, _, cells, seen = member
        return [(step, self.behind(rows, block, words, cells, seen)) for step, rows, block, words in steps]

    def has(self, rows, cells, seen):
        """Whether any values make a member with these words, by its form."""
        return has_rows(self.side.names(), rows) and has_cells(self.program, cells) and self.has_seen(seen)

    def has_seen(self, seen):
        if not isinstance(seen, tuple) or not all([label in self.program.labels for label in seen]):
            return False
        return seen == tuple(sorted(list(seen))) and all([seen.count(label) <= MOST_SEEN for label in seen])
