"""Models out of the steps of a walk: words that are not named become any other ones."""

from handkept.guesses import LETTERS

ALPHABET = "abcdefghijklmnopqrstuvwxyz"


class OtherWords:
    """Words that are not known, unlike each other, one by one."""

    def __init__(self, known):
        self.known = known
        self.many = 0
        self.by_letter = {}

    def another(self):
        word = self.next_word()
        while word in self.known:
            word = self.next_word()
        return word

    def next_word(self):
        self.many += 1
        rest = self.many
        word = ""
        while rest > 0:
            word = ALPHABET[(rest - 1) % len(ALPHABET)] + word
            rest = (rest - 1) // len(ALPHABET)
        return word

    def of_class(self, word):
        """A word of this class: always the same one for a letter."""
        if word == "":
            return self.another()
        if word not in LETTERS:
            return word
        if word not in self.by_letter:
            self.by_letter[word] = self.another()
        return self.by_letter[word]


def rebuilt(steps, known, sheet, uses):
    """The elder and the newer model of all records that these (step, member) open."""
    models = RebuiltModels(OtherWords(known), sheet, uses)
    for step, _ in steps:
        models.follow(step)
    models.finish_all()
    return models.models()


class RebuiltModels:
    """An elder and a newer model, by the steps of a walk through both.

    rows are the rows that are open, of both models; records the open ones, each (kind, words, newer words), words
    () where the record is not there.
    """

    def __init__(self, other_words, sheet, uses):
        self.other_words = other_words
        self.sheet = sheet
        self.fields = uses.fields
        self.rows = [([], [])]
        self.records = []

    def follow(self, step):
        if step == ("close",):
            self.finish()
        elif len(step) > 1:
            _, kind, elder, newer = step
            self.records.append((kind, *self.words_of(kind, elder, newer)))
            self.rows.append(([], []))

    def finish(self):
        kind, elder, newer = self.records.pop()
        inner = self.rows.pop()
        for row, words, own in zip(self.rows[-1], (elder, newer), inner):
            if words:
                row.append((kind, words, tuple(own)))

    def finish_all(self):
        while self.records:
            self.finish()

    def words_of(self, kind, elder, newer):
        if not newer:
            return (self.words_by(elder), ())
        if not elder:
            return ((), self.words_by(newer))
        words = []
        newer_words = []
        for field, word, newer_word in zip(self.fields[kind], elder, newer):
            words.append(self.other_words.of_class(word or newer_word))
            newer_words.append(words[-1])
            if word != newer_word and ("turn", kind, field) in self.sheet:
                words[-1] = self.other_words.of_class(word)
                newer_words[-1] = self.other_words.of_class(newer_word)
        return (tuple(words), tuple(newer_words))

    def words_by(self, classes):
        return tuple([self.other_words.of_class(word) for word in classes])

    def path_there(self):
        """The path, in the elder model, of the record that was opened last."""
        return tuple([(kind, words[0]) for kind, words, _ in self.records])

    def models(self):
        elder, newer = self.rows[0]
        return (tuple(elder), tuple(newer))
