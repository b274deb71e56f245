"""The walk of two models that are the same but for one field of one record: which lines are not the same.

A member is (rows, cells, phase, labels), as section 12 of the document tells it; its rows are (is_turned, kind,
classes, classes of the newer, used). A step is ("both", kind, classes, classes of the newer), ("close",) or ("end",).
"""

from handkept.classes import used_with
from handkept.comparing import Comparison, signs_of
from handkept.forms import has_cells, has_classes, has_used
from handkept.naming import Naming
from handkept.values import is_tuple_of

AT_FIRST = (False, "", (), (), ())
CLOSE = ("close",)
END = ("end",)
PHASES = ("ahead", "within", "behind")
# What stands in newer for a word that turns, is of the class "", and so like no other one. No word has a dot.
TURNED = "."


class TouchWalk:
    """What comes of members if this field of this kind turns."""

    def __init__(self, program, kind, field):
        self.program = program
        self.comparison = Comparison(program, program)
        self.uses = self.comparison.several[0]
        self.naming = Naming(self.uses)
        self.naming.name_tests(self.uses)
        self.kind = kind
        self.place = self.uses.fields[kind].index(field)
        self.records = {}

    def first(self):
        """The list of the first members: just one."""
        return [self.behind((AT_FIRST,), ("begin", ""), [], (self.comparison.first_cells(), "ahead", ()))]

    def behind(self, rows, block, records, state):
        """The member with these rows behind a block, of a state (cells, phase, labels).

        records are those that are open in the block, each (is_turned, kind, classes, classes of the newer).
        """
        cells, phase, labels = state
        signs = [self.signs(*record) for record in records]
        words = (tuple([elder for elder, _ in signs]), tuple([newer for _, newer in signs]))
        cells, labels = self.comparison.behind(block, cells, words, labels)
        return (rows, cells, phase, labels)

    def signs(self, is_turned, kind, words, newer_words):
        """What stands for the words of a record in elder, and in newer."""
        elder = signs_of(kind, self.uses.fields[kind], words)
        if not is_turned:
            return (elder, elder)
        return (elder, self.with_word(elder, newer_words[self.place] or TURNED))

    def closed(self, member):
        """The list of (step, member) that comes by a close or the end: one, or none."""
        rows, cells, phase, labels = member
        if rows == ():
            return []
        if len(rows) > 1:
            block = ("close", rows[-1][1])
            now = "behind" if rows[-1][0] else phase
            return [(CLOSE, self.behind(rows[:-1], block, records_of(rows), (cells, now, labels)))]
        if phase == "ahead":
            return []
        return [(END, self.behind((), ("end", ""), [], (cells, phase, labels)))]

    def opened(self, member):
        """The list of (step, member) that come as a record opens."""
        rows, cells, phase, labels = member
        if rows == ():
            return []
        found = []
        for kind in self.uses.inner[rows[-1][1]]:
            for record in self.records_that_open(kind, phase):
                is_turned, _, words, newer_words = record
                now_used = used_with(rows[-1][4], kind, words[0])
                if now_used is not None:
                    own = (is_turned, kind, *self.lasting_words(kind, words, newer_words), ())
                    ahead = rows[:-1] + ((*rows[-1][:4], now_used), own)
                    state = (cells, "within" if is_turned else phase, labels)
                    behind = self.behind(ahead, ("open", kind), records_of(rows) + [record], state)
                    found.append((self.step_of(record), behind))
        return found

    def lasting_words(self, kind, words, newer_words):
        return (self.naming.lasting_words(kind, words), self.naming.lasting_words(kind, newer_words))

    def records_that_open(self, kind, phase):
        """All (is_turned, kind, classes, classes of the newer) of such records, of those that do not last, too."""
        is_turning = phase == "ahead" and kind == self.kind
        if (kind, is_turning) not in self.records:
            found = [(False, kind, words, words) for words in self.naming.records_of(kind)]
            if is_turning:
                found.extend(self.turned_records())
            self.records[(kind, is_turning)] = found
        return self.records[(kind, is_turning)]

    def turned_records(self):
        found = []
        for words in self.naming.records_of(self.kind):
            for word in [""] + self.naming.words_named((self.kind, self.place)):
                if word == "" or word != words[self.place]:
                    found.append((True, self.kind, words, self.with_word(words, word)))
        return found

    def step_of(self, record):
        is_turned, kind, words, newer_words = record
        if not is_turned:
            return ("both", kind, words, newer_words)
        # Letters stand for words that are unlike each other: both can be of the class "".
        elder = self.with_word(words, words[self.place] or "A")
        newer = self.with_word(newer_words, newer_words[self.place] or "B")
        return ("both", kind, elder, newer)

    def with_word(self, words, word):
        """These words with this one for the field that turns."""
        return words[:self.place] + (word,) + words[self.place + 1:]

    def has_member(self, value):
        """Whether any value is a member by its form."""
        if not is_tuple_of(value, 4):
            return False
        rows, cells, phase, labels = value
        if not self.has_rows(rows) or phase not in PHASES or not is_tuple_of(cells, 2):
            return False
        # Within the record that is turned is just where it is open.
        if len([row for row in rows if row[0]]) != (1 if phase == "within" else 0):
            return False
        return all([has_cells(self.program, own) for own in cells]) and self.comparison.has_labels(labels)

    def has_rows(self, rows):
        if rows == ():
            return True
        if not isinstance(rows, tuple) or not all([is_tuple_of(row, 5) for row in rows]):
            return False
        if not isinstance(rows[0][0], bool) or rows[0][:4] != AT_FIRST[:4]:
            return False
        for ahead, row in zip(rows, rows[1:]):
            if row[1] not in self.uses.inner[ahead[1]] or not self.has_record(row):
                return False
        return all([has_used([self.naming], row[1], row[4]) for row in rows])

    def has_record(self, row):
        is_turned, kind, words, newer_words, _ = row
        if not isinstance(is_turned, bool) or (is_turned and kind != self.kind):
            return False
        if not has_classes(self.naming, kind, words) or not has_classes(self.naming, kind, newer_words):
            return False
        if not is_turned:
            return words == newer_words
        if words[self.place] == newer_words[self.place] != "":
            return False
        return self.with_word(words, "") == self.with_word(newer_words, "")


def records_of(rows):
    """The records that are open, as far as their words last."""
    return [row[:4] for row in rows[1:]]
