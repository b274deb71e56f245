"""Trials: what is done to a keeper in a block, and taken back behind it."""


class Trial:
    """Stands in a with statement: behind the block the keeper is as it was ahead of it, unless this is kept."""

    def __init__(self, keeper):
        self.keeper = keeper
        self.ahead = keeper
        self.kept = None

    def __enter__(self):
        self.ahead = self.keeper.copy()
        self.kept = None
        return self

    def __exit__(self, kind, value, trace):
        # Plain assignments alone may stand here: so all that the keeper shows is set by itself.
        if kind is not None or self.kept is None:
            self.keeper.steps = self.ahead.steps
            self.keeper.undone = self.ahead.undone
            self.keeper.program = self.ahead.program
            self.keeper.model = self.ahead.model
            self.keeper.text = self.ahead.text
            self.keeper.edits = self.ahead.edits
            self.keeper.edited = self.ahead.edited
            self.keeper.orders = self.ahead.orders
            self.keeper.journal = self.ahead.journal

    def keep(self):
        """What is done in the block stays, unless an error leaves it."""
        self.kept = True
