"""All small models, and what goes wrong in them: what the functions for every model are held against."""

import itertools

from handkept.edits import fate_by
from handkept.finding import first_of_way, found_by, made_at, titled_lines


def changes(program, sheet, many, pool, outer="", which="both", found=None):
    """All (elder row, newer row) below a kind, changes by the sheet, of so many records, with words of the pool.

    One that is the same in both counts once.
    """
    found = {} if found is None else found
    key = (many, outer, which)
    if key not in found:
        rows = [((), ())] if many == 0 else []
        for first in range(1, many + 1):
            for kind, within, fields in program.kinds:
                if within == outer:
                    for own in own_whiches(sheet, kind, which):
                        inner = changes(program, sheet, first - 1, pool, kind, own, found)
                        behind = changes(program, sheet, many - first, pool, outer, which, found)
                        records = own_words(sheet, kind, fields, pool)
                        for words, within_it, rest in itertools.product(records, inner, behind):
                            rows += joined(kind, own, words, within_it, rest)
        found[key] = list(dict.fromkeys(rows))
    return found[key]


def own_whiches(sheet, kind, which):
    if which != "both":
        return [which]
    return ["both"] + [own for own, leave in (("gone", "go"), ("come", "come")) if (leave, kind) in sheet]


def own_words(sheet, kind, fields, pool):
    """All (words, words of the newer) of a record of both."""
    pairs = [[(word, newer) for word in pool for newer in pool if newer == word or ("turn", kind, field) in sheet]
             for field in fields]
    return [tuple(zip((key, key), *row)) for key in pool for row in itertools.product(*pairs)]


def joined(kind, which, words, inner, rest):
    """A record ahead of the rest of its rows, where its key does not stand in one of these."""
    key = words[0][0]
    if any(record[0] == kind and record[1][0] == key for row in rest for record in row):
        return []
    own = [(() if which == other else ((kind, words[at], inner[at]),)) for at, other in enumerate(("come", "gone"))]
    return [(own[0] + rest[0], own[1] + rest[1])]


def models(program, many, pool):
    """All models of so many records with words of the pool."""
    return [elder for elder, newer in changes(program, (), many, pool) if elder == newer]


def many_records(elder, newer):
    """How many records two models have, one that is the same in both counted once."""
    rows = [{(record[0], record[1][0]): record[2] for record in row} for row in (elder, newer)]
    return sum(1 + many_records(rows[0].get(name, ()), rows[1].get(name, ())) for name in {**rows[0], **rows[1]})


def fates(elder, newer, elder_model, newer_model, label, rule):
    """(way, fate) of all edits that are made at lines of a label."""
    lines = titled_lines(elder, elder_model, rule[2])
    newer_lines = titled_lines(newer, newer_model, rule[2])
    told = []
    for way in {line[0]: True for line in lines if line[0][0] == label}:
        memory = made_at(lines, way, rule)
        if memory is not None:
            found = found_by(newer_lines, memory, rule)
            told.append((way, fate_by(found, first_of_way(newer_lines, way))))
    return told


def wrong_changes(elder, newer, sheet, label, rule, wrong, many, pool):
    """All (elder_model, newer_model, way, fate) of so many records with a fate that is wrong."""
    return [(*both, way, fate) for both in changes(elder, sheet, many, pool)
            for way, fate in fates(elder, newer, *both, label, rule) if fate in wrong]
