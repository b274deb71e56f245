"""Which lines can look alike in one text."""

from handkept.errors import BadLabel
from handkept.guesses import Guesses
from handkept.models import is_model, written
from handkept.reaching import MOST_WALKS, Reach, is_closed
from handkept.rebuilding import OtherWords, RebuiltModels
from handkept.twinwalks import WHOLE, TwinWalk
from handkept.uses import Uses
from handkept.values import is_ascending, is_tuple_of


def twins(program, label):
    """(rows, table): for each label a model in which a line of it is like another line of the label asked for."""
    check_label(program, label)
    walks = TwinWalks(program, label)
    reach = Reach(walks, True)
    reach.go()
    # Members came by the number of records that are opened on the way to them: the first one has the fewest.
    rows = []
    for other in program.labels:
        with_pair = [member for member in reach.came if has_pair(member, label, other)]
        rows.append((other, walks.model_by(reach.steps_to(with_pair[0])) if with_pair else None))
    return (tuple(rows), reach.table())


def shows_twins(program, label, value):
    """Whether any value is such a result of twins, right by itself."""
    check_label(program, label)
    if not is_tuple_of(value, 2):
        return False
    rows, table = value
    if not is_tuple_of(rows, len(program.labels)) or not isinstance(table, tuple):
        return False
    walks = TwinWalks(program, label)
    if not all([walks.has_member(member) for member in table]):
        return False
    for other, row in zip(program.labels, rows):
        if not _is_row(program, label, other, table, row):
            return False
    return is_ascending(table) and is_closed(walks, table)


def check_label(program, label):
    if label not in program.labels:
        raise BadLabel(label)


def has_pair(member, label, other):
    """Whether a line of one label and another line of the other one came with the words of this member."""
    seen = member[3]
    if label == other:
        return seen.count(label) > 1
    return label in seen and other in seen


def _is_row(program, label, other, table, row):
    if not is_tuple_of(row, 2) or row[0] != other:
        return False
    model = row[1]
    if model is None:
        return not any([has_pair(member, label, other) for member in table])
    return is_model(program, model) and _has_like_lines(program, model, label, other)


def _has_like_lines(program, model, label, other):
    lines = [(way[0], words) for way, words in written(program, model)]
    like = [words for own, words in lines if own == label]
    if label == other:
        return len(set(like)) < len(like)
    return any([own == other and words in like for own, words in lines])


class TwinWalks:
    """All walks of one model, by the words that a line of a label may have."""

    def __init__(self, program, label):
        self.program = program
        self.uses = Uses(program)
        self.guesses = Guesses([self.uses], self.uses.line_of(label)[2], WHOLE)
        self.walks = {}

    def walk_by(self, guess):
        words = guess[0]
        if words not in self.walks:
            if len(self.walks) == MOST_WALKS:
                self.walks = {}
            self.walks[words] = TwinWalk(words, self.program, self.uses)
        return self.walks[words]

    def walk_of(self, member):
        return self.walk_by((member[0], ""))

    def is_wanted(self, member):
        return False

    def has_member(self, value):
        """Whether any value is a member by its form."""
        if not is_tuple_of(value, 4) or not self.guesses.has((value[0], "")):
            return False
        _, rows, cells, seen = value
        return self.walk_of(value).has(rows, cells, seen)

    def model_by(self, steps):
        """The model of all records that these (step, member) open."""
        models = RebuiltModels(OtherWords(self.guesses.known), (), self.uses)
        for step, _ in steps:
            models.follow(step)
        models.finish_all()
        return models.models()[0]
