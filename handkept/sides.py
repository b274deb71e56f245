"""One program in a walk through all models, for one guess of what is remembered.

Words of records are told by their classes: the word itself if it is named for its REF, otherwise "".
"""

from handkept.running import run_block
from handkept.uses import is_ref


class Hold:
    """What lines are held against: a guess, by a rule."""

    def __init__(self, guess, rule):
        self.words, self.title = guess
        _, self.skipped, self.under = rule

    def names_by(self, at, tokens):
        """The words that are named for the REF at this place of a line."""
        named = []
        if len(tokens) == len(self.words) and at not in self.skipped:
            named.append(self.words[at])
        if self.under and at == 0:
            named.append(self.under)
        if self.title and at == 1 and (is_ref(tokens[0]) or tokens[0][1] == self.under):
            named.append(self.title)
        return named

    def fits(self, words):
        """Whether a line has these words, whatever its title is."""
        if len(words) != len(self.words):
            return False
        return all([at in self.skipped or word == self.words[at] for at, word in enumerate(words)])

    def title_behind(self, words):
        """Whether the title behind a line is the one that is guessed; None if this is no heading."""
        if not self.under or words[0] != self.under:
            return None
        if len(words) == 1:
            return self.title == ""
        # The class "" of a word is no title "".
        return self.title != "" and words[1] == self.title


class Side:
    """What matters of the words of records to one program, and what its blocks write of them."""

    def __init__(self, program, uses, hold):
        self.program = program
        self.uses = uses
        self.hold = hold
        self.named = {}
        self.lasting = {}
        self.runs = {}
        self.is_asked = False

    def ask(self):
        # Of most guesses nothing comes beyond the beginning: so this is not asked when they are made.
        if self.is_asked:
            return
        self.is_asked = True
        for kind, fields in self.uses.fields.items():
            for place in range(len(fields)):
                self.named[(kind, place)] = []
                self.lasting[(kind, place)] = False
        for ref, word, block in self.uses.tests:
            self.name(ref, word, block)
        for _, _, _, tokens, block in self.uses.writes:
            for at, token in enumerate(tokens):
                if is_ref(token):
                    for word in self.hold.names_by(at, tokens):
                        self.name(token, word, block)

    def name(self, ref, word, block):
        """A word is named for a REF by what stands in this block."""
        if word not in self.named[ref]:
            self.named[ref].append(word)
        if block != ("open", ref[0]):
            self.lasting[ref] = True

    def words_named(self, ref):
        self.ask()
        return self.named[ref]

    def lasts(self, ref):
        self.ask()
        return self.lasting[ref]

    def lasting_words(self, kind, words):
        """These classes of a record, "" where a REF does not last."""
        return tuple([word if self.lasts((kind, place)) else "" for place, word in enumerate(words)])

    def run(self, block, cells, words):
        """Runs a block in each pass: (cells behind it, lines), each line (pass, label, fits, title behind).

        words are the classes of all open records, outermost first.
        """
        key = (block, cells, words)
        if key not in self.runs:
            self.runs[key] = self.run_anew(block, cells, words)
        return self.runs[key]

    def run_anew(self, block, cells, words):
        known = {kind: own for kind, own in zip(self.uses.chains[block[1]], words)}
        behind = []
        lines = []
        for number, part in enumerate(self.program.parts):
            worths = list(cells[number])
            for label, _, told in run_block(part.blocks[block], worths, known):
                lines.append((number, label, self.hold.fits(told), self.hold.title_behind(told)))
            behind.append(tuple(worths))
        return (tuple(behind), lines)
