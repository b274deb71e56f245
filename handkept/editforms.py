"""The form of the members of a walk of two models."""

from handkept.editwalks import AT_FIRST, there
from handkept.forms import has_cells, has_classes, has_used
from handkept.values import is_integer, is_tuple_of


class EditForm:
    """Asks of any value whether it is a member of a walk with this guess."""

    def __init__(self, walk, judge):
        self.walk = walk
        self.judge = judge

    def has(self, rows, cells, state):
        if not self.has_rows(rows) or not is_tuple_of(cells, 2):
            return False
        if not all([has_cells(side.program, own) for side, own in zip(self.walk.sides, cells)]):
            return False
        return self.has_state(state, rows)

    def has_rows(self, rows):
        if rows == ():
            return True
        if not isinstance(rows, tuple) or not all([is_tuple_of(row, 5) for row in rows]):
            return False
        if rows[0][:4] != AT_FIRST[:4]:
            return False
        for ahead, row in zip(rows, rows[1:]):
            if not self.has_record(ahead[0], ahead[1], row):
                return False
        namings = [side.names() for side in self.walk.sides]
        return all([has_used(namings, row[1], row[4]) for row in rows])

    def has_record(self, outer_which, outer, row):
        which, kind, elder, newer, _ = row
        if kind not in self.walk.inner[outer]:
            return False
        if which not in ((outer_which,) if outer_which in ("gone", "come") else ("both", "gone", "come")):
            return False
        for side, is_there, words in zip(self.walk.sides, there(which), (elder, newer)):
            if not (has_classes(side.names(), kind, words) if is_there else words == ()):
                return False
        return True

    def has_state(self, state, rows):
        if not is_tuple_of(state, 6):
            return False
        home, made, meant, front, rear, bits = state
        if not self.has_home(home, rows) or not isinstance(made, bool) or meant not in ("", "fits", "unfit"):
            return False
        return self.has_counts(meant, front, rear) and self.has_bits(bits)

    def has_home(self, home, rows):
        if self.judge.kind == "":
            return home == "open"
        if home == "open":
            return any([row[1] == self.judge.kind and row[0] != "come" for row in rows])
        return home in ("before", "past")

    def has_counts(self, meant, front, rear):
        if not is_integer(front) or not is_integer(rear):
            return False
        if self.judge.only:
            return 0 <= front <= (1 if meant == "fits" else 2) and rear == 0
        return front in (0, 1) and rear in ((0, 1) if meant == "" else (0,))

    def has_bits(self, bits):
        many = sum(self.judge.passes) if self.judge.under else 0
        return is_tuple_of(bits, many) and all([isinstance(bit, bool) for bit in bits])
