"""A keeper of a model, a program and the edits of the text that is written."""

from handkept.errors import BadModel, NothingToRedo, NothingToUndo
from handkept.missing import first_choice
from handkept.models import is_model
from handkept.orderlines import first_lines, order_lines
from handkept.states import done, edited_lines, edits_of, first_state
from handkept.trials import Trial


class Keeper:
    """Writes a model anew by a program, and keeps the edits that hang in the text.

    steps has what there was at first and behind each order, (state, orders, journal); undone the steps that were
    taken back, the one that was taken back last ahead.
    """

    def __init__(self, program, model=()):
        if not is_model(program, model):
            raise BadModel(model)
        self.began = (program, model)
        self.undone = ()
        self.stand(((first_state(program, model), (), "\n".join(first_lines(program, model))),))

    def __eq__(self, other):
        return isinstance(other, Keeper) and self.began == other.began and self.orders == other.orders

    def stand(self, steps):
        """Shows what there is behind these steps."""
        state, orders, journal = steps[-1]
        self.steps = steps
        self.program = state["program"]
        self.model = state["model"]
        self.text = tuple([words for _, words in state["lines"]])
        self.edits = edits_of(state)
        self.edited = edited_lines(state)
        self.orders = orders
        self.journal = journal

    def do(self, order):
        """Does an order, (word, argument ..), and returns what it returns."""
        state, orders, journal = self.steps[-1]
        behind = done(state, order)
        self.undone = ()
        self.stand((*self.steps, (behind, (*orders, order), "\n".join([journal, *order_lines(order)]))))
        return behind["told"]

    def come(self, path, place, record):
        self.do(("come", path, place, record))

    def go(self, path):
        self.do(("go", path))

    def turn(self, path, field, word):
        self.do(("turn", path, field, word))

    def exchange(self, newer):
        self.do(("exchange", newer))

    def edit(self, way, rule, deed):
        """The number of the edit."""
        return self.do(("edit", way, rule, deed))

    def drop(self, number):
        self.do(("drop", number))

    def write(self):
        """(number, fate, line) of all edits."""
        return self.do(("write",))

    def wrongs(self):
        """(writing, number, fate) of all edits that were lost or astray."""
        return self.steps[-1][0]["faults"]

    def missing(self, offers):
        """The first choice of marks with which these orders bring no wrongs."""
        program, model = self.began
        return first_choice(program, model, self.orders, offers)

    def undo(self):
        if len(self.steps) == 1:
            raise NothingToUndo()
        self.undone = (self.steps[-1], *self.undone)
        self.stand(self.steps[:-1])

    def redo(self):
        if not self.undone:
            raise NothingToRedo()
        step, *rest = self.undone
        self.undone = tuple(rest)
        self.stand((*self.steps, step))

    def trial(self):
        """For a with statement: behind the block all is as ahead of it, unless the trial is kept."""
        return Trial(self)

    def tried(self, look, *, keep=False):
        """What look tells of the keeper within a trial, which is kept if keep is True."""
        with self.trial() as trial:
            told = look(self)
            if keep is True:
                trial.keep()
        return told

    def copy(self):
        """A keeper with all that this one has, which goes on by itself."""
        program, model = self.began
        twin = Keeper(program, model)
        twin.undone = self.undone
        twin.stand(self.steps)
        return twin

    def way_at(self, line):
        """The way of the line with this number in the text written last, None if there is no such line."""
        lines = self.steps[-1][0]["lines"]
        return lines[line][0] if line < len(lines) else None
