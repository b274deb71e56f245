"""The walk of one model by two programs: which lines they do not write the same.

A member is (rows, cells, labels), as section 13 of the document tells it. A step is ("both", kind, classes, classes),
as for two models that are the same, ("close",) or ("end",).
"""

from handkept.comparing import Comparison, signs_of
from handkept.forms import has_cells
from handkept.naming import Naming
from handkept.onemodel import AT_FIRST, closed_rows, has_rows, opened_rows
from handkept.values import is_tuple_of


class SameWalk:
    """What comes of members."""

    def __init__(self, elder, newer):
        self.comparison = Comparison(elder, newer)
        several = self.comparison.several
        self.uses = several[0]
        self.naming = Naming(self.uses)
        for uses in several:
            self.naming.name_tests(uses)
        for uses in several:
            self.naming.keep_tokens(uses)

    def first(self):
        """The list of the first members: just one."""
        return [self.behind((AT_FIRST,), ("begin", ""), (), self.comparison.first_cells(), ())]

    def behind(self, rows, block, words, cells, labels):
        """The member with these rows behind a block; words are the classes of the records that are open in it."""
        chain = self.uses.chains[block[1]]
        signs = tuple([signs_of(kind, self.uses.fields[kind], own) for kind, own in zip(chain, words)])
        return (rows, *self.comparison.behind(block, cells, (signs, signs), labels))

    def closed(self, member):
        """The list of (step, member) that comes by a close or the end: one, or none."""
        return self.members(closed_rows(member[0]), member)

    def opened(self, member):
        """The list of (step, member) that come as a record opens."""
        return self.members(opened_rows(self.naming, member[0]), member)

    def members(self, steps, member):
        _, cells, labels = member
        return [(step, self.behind(rows, block, words, cells, labels)) for step, rows, block, words in steps]

    def has_member(self, value):
        """Whether any value is a member by its form."""
        if not is_tuple_of(value, 3) or not is_tuple_of(value[1], 2):
            return False
        rows, cells, labels = value
        if not all([has_cells(program, own) for program, own in zip(self.comparison.programs, cells)]):
            return False
        return has_rows(self.naming, rows) and self.comparison.has_labels(labels)
