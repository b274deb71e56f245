"""Edits: what they remember of their lines, and what comes of them behind a change."""

from handkept.errors import BadModel, BadPrograms, BadRule, BadWay, NoChange, NotMade
from handkept.finding import first_of_way, found_by, made_at, titled_lines
from handkept.models import is_model
from handkept.sheets import is_change
from handkept.values import is_ascending, is_integer, is_tuple_of
from handkept.words import is_word

LAST_PLACE = 5


def is_rule(value):
    """Whether any value is a rule: (word, skipped, under)."""
    if not is_tuple_of(value, 3):
        return False
    word, skipped, under = value
    return word in ("first", "only") and _is_skipped(skipped) and (under == "" or is_word(under))


def is_way(labels, value):
    """Whether any value is a way by its form: (one of these labels, tuple of pairs of words)."""
    if not is_tuple_of(value, 2):
        return False
    label, path = value
    return label in labels and is_path(path)


def is_path(value):
    """Whether any value is a path by its form: a tuple of pairs of words."""
    return isinstance(value, tuple) and all([_is_pair_of_words(pair) for pair in value])


def remembered(program, model, way, rule):
    """What an edit at this way remembers, (words, title); None if it is not made."""
    if not is_model(program, model):
        raise BadModel(model)
    if not is_way(program.labels, way):
        raise BadWay(way)
    if not is_rule(rule):
        raise BadRule(rule)
    return made_at(titled_lines(program, model, rule[2]), way, rule)


def fate(elder, newer, sheet, elder_model, newer_model, way, rule):
    """What comes of an edit behind a change: (its fate, the number of the line found or None)."""
    check_change(elder, newer, sheet, elder_model, newer_model)
    memory = remembered(elder, elder_model, way, rule)
    if memory is None:
        raise NotMade(way)
    lines = titled_lines(newer, newer_model, rule[2])
    found = found_by(lines, memory, rule)
    return (fate_by(found, first_of_way(lines, way)), found)


def check_change(elder, newer, sheet, elder_model, newer_model):
    """Refuses programs of other kinds, and what is no change by the sheet."""
    check_programs(elder, newer)
    if not is_change(elder, sheet, elder_model, newer_model):
        raise NoChange((elder_model, newer_model))


def check_programs(elder, newer):
    """Refuses programs of other kinds."""
    if elder.kinds != newer.kinds:
        raise BadPrograms((elder, newer))


def fate_by(found, meant):
    """The fate, by the numbers of the line that is found and of the one that is meant."""
    if found is None:
        return "gone" if meant is None else "lost"
    return "kept" if found == meant else "astray"


def _is_skipped(value):
    if not isinstance(value, tuple) or not all([is_integer(place) and 0 <= place <= LAST_PLACE for place in value]):
        return False
    return is_ascending(value)


def _is_pair_of_words(value):
    return is_tuple_of(value, 2) and all([is_word(word) for word in value])
