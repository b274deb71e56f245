"""Which lines can look alike in one text."""

from handkept.errors import BadLabel
from handkept.guesses import Guesses
from handkept.labelrows import shows_rows, told_rows
from handkept.models import is_model, written
from handkept.reaching import MOST_WALKS
from handkept.rebuilding import rebuilt
from handkept.twinwalks import WHOLE, TwinWalk
from handkept.uses import Uses
from handkept.values import is_tuple_of

NOTHING = (None,)


def twins(program, label):
    """(rows, table): for each label a model in which a line of it is like another line of the label asked for."""
    check_label(program, label)
    return told_rows(TwinWalks(program, label), program.labels,
                     lambda member, other: has_pair(member, label, other), NOTHING)


def shows_twins(program, label, value):
    """Whether any value is such a result of twins, right by itself."""
    check_label(program, label)
    return shows_rows(TwinWalks(program, label), program.labels,
                      lambda member, other: has_pair(member, label, other), NOTHING,
                      lambda other, models: has_like_lines(program, models[0], label, other), value)


def check_label(program, label):
    if label not in program.labels:
        raise BadLabel(label)


def has_pair(member, label, other):
    """Whether a line of one label and another line of the other one came with the words of this member."""
    seen = member[3]
    if label == other:
        return seen.count(label) > 1
    return label in seen and other in seen


def has_like_lines(program, model, label, other):
    """Whether any value is a model in which a line of one label is like another line of the other one."""
    if not is_model(program, model):
        return False
    lines = [(way[0], words) for way, words in written(program, model)]
    like = [words for own, words in lines if own == label]
    if label == other:
        return len(set(like)) < len(like)
    return any([own == other and words in like for own, words in lines])


class TwinWalks:
    """All walks of one model, by the words that a line of a label may have."""

    def __init__(self, program, label):
        self.program = program
        self.uses = Uses(program)
        self.guesses = Guesses([self.uses], self.uses.line_of(label)[2], WHOLE)
        self.walks = {}

    def walk_by(self, guess):
        words = guess[0]
        if words not in self.walks:
            if len(self.walks) == MOST_WALKS:
                self.walks = {}
            self.walks[words] = TwinWalk(words, self.program, self.uses)
        return self.walks[words]

    def walk_of(self, member):
        return self.walk_by((member[0], ""))

    def is_wanted(self, member):
        return False

    def has_member(self, value):
        """Whether any value is a member by its form."""
        if not is_tuple_of(value, 4) or not self.guesses.has((value[0], "")):
            return False
        _, rows, cells, seen = value
        return self.walk_of(value).has(rows, cells, seen)

    def models_by(self, steps):
        """The model of all records that these (step, member) open, twice."""
        return rebuilt(steps, self.guesses.known, (), self.uses)
