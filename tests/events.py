"""What programs write at each begin, open, close and end of a model, by their texts alone."""

from tests.plain_pairs import lines_in
from tests.plain_walk import Text, is_ref


def events(program, model):
    """The list of {label: words}, one for each begin, open, close and end."""
    text = Text(program)
    cells = [[0] * len(names) for names, _ in text.passes]
    found = []

    def go(heading, records):
        nonlocal cells
        worths = {ref: word for kind, words in records for ref, word in zip(text.refs(kind), words)}
        cells, lines = lines_in(text, heading, cells, worths)
        found.append({label: [worths[token] if is_ref(token) else token for token in tokens]
                      for label, tokens in lines.items()})

    def go_through(row, records):
        for kind, words, inner in row:
            own = [*records, (kind, words)]
            go(("open", kind), own)
            go_through(inner, own)
            go(("close", kind), own)

    go(("begin",), [])
    go_through(model, [])
    go(("end",), [])
    return found


def unlike(programs, models):
    """The labels of lines that are not the same at some begin, open, close or end."""
    found = set()
    for one, other in zip(*[events(program, model) for program, model in zip(programs, models)]):
        found |= {label for label in {**one, **other} if one.get(label) != other.get(label)}
    return found
