"""Walks in which nothing is guessed: of which labels two programs, or one of two models, do not write the same."""

from handkept.guesses import Guesses
from handkept.models import steps_of_part
from handkept.rebuilding import rebuilt
from handkept.running import run_passes
from handkept.uses import Uses, is_ref
from handkept.values import is_ascending

WHOLE = ("first", (), "")


class Comparison:
    """Runs the blocks of both programs, whose kinds are equal.

    cells and words are those of both, words those of the open records, outermost first, as signs_of tells them.
    """

    def __init__(self, elder, newer):
        self.programs = (elder, newer)
        self.several = (Uses(elder), Uses(newer))
        self.labels = elder.labels
        self.runs = {}

    def first_cells(self):
        return tuple([tuple([(0,) * len(part.worths) for part in program.parts]) for program in self.programs])

    def behind(self, block, cells, words, labels):
        """(cells, labels) behind a block: labels are those of which lines were not the same so far."""
        key = (block, cells, words)
        if key not in self.runs:
            self.runs[key] = self.run(block, cells, words)
        cells_behind, unlike = self.runs[key]
        return (cells_behind, tuple(sorted([*labels, *[label for label in unlike if label not in labels]])))

    def run(self, block, cells, words):
        behind = []
        told = []
        for number, program in enumerate(self.programs):
            known = {kind: own for kind, own in zip(self.several[0].chains[block[1]], words[number])}
            cells_behind, lines = run_passes(program, block, cells[number], known)
            behind.append(cells_behind)
            told.append({label: own for _, label, own in lines})
        return (tuple(behind), [label for label in self.labels if told[0].get(label) != told[1].get(label)])

    def has_labels(self, value):
        """Whether any value is an ascending tuple of labels."""
        if not isinstance(value, tuple) or not all([label in self.labels for label in value]):
            return False
        return is_ascending(value)


class WholeWalks:
    """One walk, for all that nothing is guessed of; sheet tells which words its steps turn."""

    def __init__(self, walk, sheet):
        self.walk = walk
        self.sheet = sheet
        self.several = walk.comparison.several
        self.guesses = Guesses(self.several, (), WHOLE)

    def walk_by(self, guess):
        return self.walk

    def walk_of(self, member):
        return self.walk

    def is_wanted(self, member):
        return False

    def has_member(self, value):
        """Whether any value is a member by its form."""
        return self.walk.has_member(value)

    def models_by(self, steps):
        """The elder and the newer model of all records that these (step, member) open."""
        return rebuilt(steps, told_words(self.several), self.sheet, self.several[0])


def told_words(several):
    """All words that programs test or write by themselves."""
    words = {}
    for uses in several:
        for _, word, _ in uses.tests:
            words[word] = True
        for _, _, _, tokens, _ in uses.writes:
            for token in tokens:
                if not is_ref(token):
                    words[token[1]] = True
    return words


def signs_of(kind, fields, classes):
    """What stands for the words of a record where its tokens are held against others: their classes.

    In the place of the class "" stands the REF: such a word is like itself alone.
    """
    return tuple([word or f"{kind}.{field}" for field, word in zip(fields, classes)])


def is_unlike(member, label):
    """Whether lines of a label were not the same on the way to a member."""
    return label in member[-1]


def writes_unlike(programs, models, label):
    """Whether at some begin, open, close or end the lines of a label are not the same.

    Both models have the same records.
    """
    elder, newer = [lines_of_label(program, model, label) for program, model in zip(programs, models)]
    return elder != newer


def lines_of_label(program, model, label):
    """The words of the lines of a label, at each begin, open, close and end."""
    passes = [steps_of_part(part, model) for part in program.parts]
    return [[words for step in steps for way, words in step if way[0] == label] for steps in zip(*passes)]
