"""Marks and bars that are offered, the choices of them, and what is asked with a choice."""

from handkept.edits import LAST_PLACE, is_rule
from handkept.errors import BadMarks
from handkept.marks import with_marks
from handkept.values import is_ascending, is_integer, is_tuple_of
from handkept.words import is_word

MOST_OFFERS = 6
MOST_PRICE = 9


def is_rules(program, value):
    """Whether any value is an ascending tuple of one or more (label, rule), each label of the program once."""
    if not isinstance(value, tuple) or value == ():
        return False
    if not all([is_tuple_of(row, 2) and row[0] in program.labels and is_rule(row[1]) for row in value]):
        return False
    return is_ascending([row[0] for row in value])


class Asked:
    """What is asked: of these programs, by this sheet, with these rules, each (label, rule).

    A label may have several rules.
    """

    def __init__(self, programs, sheet, rules):
        self.programs = programs
        self.sheet = sheet
        self.rules = rules

    def rules_of(self, label):
        return [rule for own, rule in self.rules if own == label]

    def is_offers(self, value):
        """Whether any value is an ascending tuple of 1 to 6 (mark, price), each mark once and let by itself."""
        if not isinstance(value, tuple) or not 1 <= len(value) <= MOST_OFFERS:
            return False
        if not all([is_tuple_of(offer, 2) and self.is_let(offer[0]) and is_price(offer[1]) for offer in value]):
            return False
        return is_ascending([offer[0] for offer in value])

    def is_let(self, mark):
        """Whether any value is a mark that is let by itself and changes something."""
        if not isinstance(mark, tuple) or len(mark) not in (2, 3):
            return False
        if mark[0] in ("still", "stop"):
            return len(mark) == 3 and barred(mark) in self.sheet
        rules = self.rules_of(mark[1])
        if not rules:
            return False
        if mark[0] in ("key", "name"):
            return self.changed((mark,)) is not None
        return is_rule_mark(mark) and any([changed_rule(mark[1], rule, (mark,)) != rule for rule in rules])

    def changed(self, choice):
        """What is asked with the marks of a choice, None if a program would be none."""
        marks = [mark for mark in choice if mark[0] in ("key", "name")]
        try:
            programs = [with_marks(program, tuple([mark for mark in marks if mark[1] in program.labels]))
                        for program in self.programs]
        except BadMarks:
            return None
        bars = [barred(mark) for mark in choice if mark[0] in ("still", "stop")]
        sheet = tuple([leave for leave in self.sheet if leave not in bars])
        rules = [(label, changed_rule(label, rule, choice)) for label, rule in self.rules]
        return Asked(tuple(programs), sheet, tuple(rules))

    def choices(self, offers):
        """All (price, choice, what is asked with it), in their sequence."""
        rows = [(0, ())]
        for mark, price in offers:
            rows = rows + [(ahead + price, choice + (mark,)) for ahead, choice in rows]
        found = []
        for price, choice in sorted(rows):
            unders = [mark[1] for mark in choice if mark[0] == "under"]
            asked = self.changed(choice)
            if asked is not None and len(set(unders)) == len(unders):
                found.append((price, choice, asked))
        return found


def is_price(value):
    return is_integer(value) and 1 <= value <= MOST_PRICE


def barred(mark):
    """What a still or a stop mark takes out of the sheet."""
    return ("turn", mark[1], mark[2]) if mark[0] == "still" else (mark[1], mark[2])


def is_rule_mark(mark):
    """Whether a mark of two or three is one that changes rules, whatever its label is."""
    if len(mark) == 2:
        return mark[0] == "only"
    if mark[0] == "skip":
        return is_integer(mark[2]) and 0 <= mark[2] <= LAST_PLACE
    return mark[0] == "under" and is_word(mark[2])


def changed_rule(label, rule, choice):
    """The rule of a label with the marks of a choice."""
    word, skipped, under = rule
    for mark in choice:
        if mark == ("only", label):
            word = "only"
        elif mark[:2] == ("skip", label) and mark[2] not in skipped:
            skipped = tuple(sorted([*skipped, mark[2]]))
        elif mark[:2] == ("under", label):
            under = mark[2]
    return (word, skipped, under)
