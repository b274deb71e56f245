"""What an edit remembers, guessed ahead of a walk through all models."""

from handkept.uses import is_ref
from handkept.values import is_tuple_of

# One for each place of a line, and one for the title.
LETTERS = "ABCDEFG"


class Guesses:
    """All guesses X, each (words, title), of an edit by this rule at a line of these tokens.

    several are the Uses of all programs that are asked. A letter stands for any word that is not known.
    """

    def __init__(self, several, tokens, rule):
        _, self.skipped, self.under = rule
        self.tokens = tokens
        self.known = self.known_words(several)
        self.has_titles = any([self.has_title_of_record(uses) for uses in several])
        self.has_refs = any([is_ref(token) for token in tokens])

    def known_words(self, several):
        known = {}
        if self.under:
            known[self.under] = True
        for uses in several:
            for _, word, _ in uses.tests:
                known[word] = True
            for _, _, _, tokens, _ in uses.writes:
                for at, token in enumerate(tokens):
                    if not is_ref(token) and self.is_held_against(at, tokens):
                        known[token[1]] = True
        return sorted(list(known))

    def is_held_against(self, at, tokens):
        """Whether the token at this place is held against a word that is remembered."""
        if len(tokens) == len(self.tokens) and at not in self.skipped:
            return True
        return at == 1 and self.may_be_heading(tokens)

    def may_be_heading(self, tokens):
        return self.under != "" and (is_ref(tokens[0]) or tokens[0][1] == self.under)

    def has_title_of_record(self, uses):
        """Whether a line has as its title what the word of a record is."""
        return any([len(tokens) > 1 and is_ref(tokens[1]) and self.may_be_heading(tokens)
                    for _, _, _, tokens, _ in uses.writes])

    def each_guess(self):
        """All of them, one by one, as they may be far too many for a list."""
        waiting = [()]
        while waiting:
            words = waiting.pop()
            if len(words) == len(self.tokens):
                for title in self.titles(words):
                    yield (words, title)
            else:
                for word in reversed(self.words_behind(words)):
                    waiting.append(words + (word,))

    def words_behind(self, words):
        """What may stand behind these words of a guess."""
        at = len(words)
        token = self.tokens[at]
        if at in self.skipped:
            return [""]
        if not is_ref(token):
            return [token[1]]
        for place in range(at):
            if self.tokens[place] == token and place not in self.skipped:
                return [words[place]]
        return self.known + letters_behind(words)

    def titles(self, words):
        if not self.under:
            return [""]
        return [""] + self.known + (letters_behind(words) if self.has_titles else [])

    def has(self, value):
        """Whether any value is one of the guesses."""
        if not is_tuple_of(value, 2) or not is_tuple_of(value[0], len(self.tokens)):
            return False
        words, title = value
        for at, word in enumerate(words):
            if word not in self.words_behind(words[:at]):
                return False
        return title in self.titles(words)


def letters_behind(words):
    """The letters that may come behind these words: those that came, and the next one."""
    many = len([letter for letter in LETTERS if letter in words])
    return list(LETTERS[:many + 1])
