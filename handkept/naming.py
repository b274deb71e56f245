"""Which words are named for the REFs of records, by what asks for them, and which of these last.

Words of records are told by their classes: the word itself if it is named for its REF, otherwise "".
"""

from handkept.classes import rows_of_classes
from handkept.uses import is_ref


class Naming:
    """The words that are named for each REF, and whether it lasts."""

    def __init__(self, uses):
        self.uses = uses
        self.named = {}
        self.lasting = {}
        for kind, fields in uses.fields.items():
            for place in range(len(fields)):
                self.named[(kind, place)] = []
                self.lasting[(kind, place)] = False

    def name(self, ref, word, block):
        """A word is named for a REF by what stands in this block."""
        if word not in self.named[ref]:
            self.named[ref].append(word)
        if block != ("open", ref[0]):
            self.lasting[ref] = True

    def name_tests(self, uses):
        """Words are named by the tests of a program."""
        for ref, word, block in uses.tests:
            self.name(ref, word, block)

    def keep_tokens(self, uses):
        """REFs with a word that is named for them last as well where a program writes them."""
        for _, _, _, tokens, block in uses.writes:
            for token in tokens:
                if is_ref(token) and self.named[token] and block != ("open", token[0]):
                    self.lasting[token] = True

    def words_named(self, ref):
        return self.named[ref]

    def lasts(self, ref):
        return self.lasting[ref]

    def lasting_words(self, kind, words):
        """These classes of a record, "" where a REF does not last."""
        return tuple([word if self.lasting[(kind, place)] else "" for place, word in enumerate(words)])

    def records_of(self, kind):
        """The words of all records of this kind, by their classes."""
        places = range(len(self.uses.fields[kind]))
        return rows_of_classes([[""] + self.named[(kind, place)] for place in places])
