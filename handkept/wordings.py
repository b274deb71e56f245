"""The forms in which paths, ways, rules, deeds and orders of one line are written, for journals and desks.

What reads returns None for what is of no such form. By these forms names are any words.
"""

from handkept.edits import is_path
from handkept.words import is_word

MOST_DIGITS = 3
NOTHING = "-"
DIGITS = "0123456789"


def show_path(path):
    return "/".join([kind + ":" + key for kind, key in path]) or NOTHING


def show_way(way):
    label, path = way
    return label + " " + show_path(path)


def show_rule(rule):
    word, skipped, under = rule
    places = ",".join([str(place) for place in skipped])
    return word + " " + (places or NOTHING) + " " + (under or NOTHING)


def show_deed(deed):
    return " ".join([deed[0], *[word for words in deed[1:] for word in words]])


def read_word(text):
    return text if is_word(text) else None


def read_number(text):
    """A number of at most three digits, without leading zeros."""
    if not 1 <= len(text) <= MOST_DIGITS or not all([letter in DIGITS for letter in text]):
        return None
    return int(text) if text == str(int(text)) else None


def read_path(text):
    if text == NOTHING:
        return ()
    path = tuple([tuple(pair.split(":")) for pair in text.split("/")])
    return path if is_path(path) else None


def read_way(words):
    """A way, of two words."""
    return whole([read_word(words[0]), read_path(words[1])])


def read_rule(words):
    """A rule, of three words."""
    word, skipped, under = words
    places = () if skipped == NOTHING else whole([read_number(place) for place in skipped.split(",")])
    title = "" if under == NOTHING else read_word(under)
    return whole([word if word in ("first", "only") else None, places, title])


def read_deed(words):
    """A deed, of one word or more."""
    if words[0] == "strike":
        return ("strike",) if len(words) == 1 else None
    if words[0] not in ("ahead", "behind", "instead") or len(words) == 1:
        return None
    return whole([words[0], whole([read_word(word) for word in words[1:]])])


def read_order(words):
    """An order of one line."""
    word, *rest = words
    if word == "write" and len(rest) == 0:
        return ("write",)
    if word == "go" and len(rest) == 1:
        return whole([word, read_path(rest[0])])
    if word == "turn" and len(rest) == 3:
        return whole([word, read_path(rest[0]), read_word(rest[1]), read_word(rest[2])])
    if word == "edit" and len(rest) > 5:
        return whole([word, read_way(rest[:2]), read_rule(rest[2:5]), read_deed(rest[5:])])
    if word == "drop" and len(rest) == 1:
        return whole([word, read_number(rest[0])])
    return None


def whole(parts):
    """The tuple of what was read, None if a part of it is None."""
    return None if None in parts else tuple(parts)
