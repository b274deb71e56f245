"""One program in a walk through all models, for one guess of what is remembered."""

from handkept.naming import Naming
from handkept.running import run_passes
from handkept.uses import is_ref


class Hold:
    """What lines are held against: a guess, by a rule."""

    def __init__(self, guess, rule):
        self.words, self.title = guess
        _, self.skipped, self.under = rule

    def names_by(self, at, tokens):
        """The words that are named for the REF at this place of a line."""
        named = []
        if len(tokens) == len(self.words) and at not in self.skipped:
            named.append(self.words[at])
        if self.under and at == 0:
            named.append(self.under)
        if self.title and at == 1 and (is_ref(tokens[0]) or tokens[0][1] == self.under):
            named.append(self.title)
        return named

    def fits(self, words):
        """Whether a line has these words, whatever its title is."""
        if len(words) != len(self.words):
            return False
        return all([at in self.skipped or word == self.words[at] for at, word in enumerate(words)])

    def title_behind(self, words):
        """Whether the title behind a line is the one that is guessed; None if this is no heading."""
        if not self.under or words[0] != self.under:
            return None
        if len(words) == 1:
            return self.title == ""
        # The class "" of a word is no title "".
        return self.title != "" and words[1] == self.title


class Side:
    """What matters of the words of records to one program, and what its blocks write of them."""

    def __init__(self, program, uses, hold):
        self.program = program
        self.uses = uses
        self.hold = hold
        self.naming = None
        self.runs = {}

    def names(self):
        """The naming by the tests and the lines that are held against the guess."""
        # Of most guesses nothing comes beyond the beginning: so this is not asked when they are made.
        if self.naming is None:
            self.naming = Naming(self.uses)
            self.naming.name_tests(self.uses)
            for _, _, _, tokens, block in self.uses.writes:
                for at, token in enumerate(tokens):
                    if is_ref(token):
                        for word in self.hold.names_by(at, tokens):
                            self.naming.name(token, word, block)
        return self.naming

    def run(self, block, cells, words):
        """Runs a block in each pass: (cells behind it, lines), each line (pass, label, fits, title behind).

        words are the classes of all open records, outermost first.
        """
        key = (block, cells, words)
        if key not in self.runs:
            self.runs[key] = self.run_anew(block, cells, words)
        return self.runs[key]

    def run_anew(self, block, cells, words):
        known = {kind: own for kind, own in zip(self.uses.chains[block[1]], words)}
        behind, lines = run_passes(self.program, block, cells, known)
        return (behind, [(number, label, self.hold.fits(told), self.hold.title_behind(told))
                         for number, label, told in lines])
