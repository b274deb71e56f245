"""Words, of which texts, models and names are made."""

MOST_LETTERS = 8


def is_word(value):
    """Whether any value is a word: a string of 1 to 8 letters a to z."""
    if not isinstance(value, str) or not 1 <= len(value) <= MOST_LETTERS:
        return False
    return all(["a" <= letter <= "z" for letter in value])
