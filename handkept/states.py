"""What a keeper has behind its orders, and what an order makes of it.

An order is (word, argument ..), the word the name of the keeper's method. A state is a dict, which is never changed:

- program, model: the present ones;
- writer, source: the program and the model of the text as it was written last; lines: its (way, words);
- hanging: the edits that were not dropped, each (number, way, rule, deed, what it remembers, number of the line at
  which it stands or None);
- made: how many edits were made; writings: how often the text was written anew;
- faults: (writing, number, fate) of all edits that were lost or astray;
- told: what the last order returns.
"""

from handkept.deeds import is_deed, lines_with
from handkept.edits import check_programs, fate_by, is_rule, is_way
from handkept.errors import BadEdits, BadNumber, BadOrder, BadRule, BadWay, NotMade
from handkept.finding import first_of_way, found_by, made_at, titled_lines
from handkept.modelrows import name_of, row_at, with_row
from handkept.models import is_model, written
from handkept.values import is_integer
from handkept.words import is_word

WRONG = ("lost", "astray")


def first_state(program, model):
    return {
        "program": program,
        "model": model,
        "writer": program,
        "source": model,
        "lines": written(program, model),
        "hanging": (),
        "made": 0,
        "writings": 0,
        "faults": (),
        "told": None,
    }


def done(state, order):
    """The state behind an order. Raises what the order raises, and changes nothing."""
    word, *arguments = order
    action = ACTIONS[word]
    return action(state, *arguments)


def edits_of(state):
    """(number, way, rule, deed) of all edits that were not dropped."""
    return tuple([own[:4] for own in state["hanging"]])


def edited_lines(state):
    """The words of the lines of the text, with all edits that stand at a line."""
    placed = [(line, deed) for _, _, _, deed, _, line in state["hanging"]]
    return lines_with([words for _, words in state["lines"]], placed)


def come(state, path, place, record):
    arguments = (path, place, record)
    row = row_at(state["model"], path)
    if row is None or not is_integer(place) or not 0 <= place <= len(row):
        raise BadOrder(arguments)
    return _with_row(state, path, row[:place] + (record,) + row[place:], arguments)


def go(state, path):
    row, place = _place_of(state, path, (path,))
    return _with_row(state, path[:-1], row[:place] + row[place + 1:], (path,))


def turn(state, path, field, word):
    arguments = (path, field, word)
    row, place = _place_of(state, path, arguments)
    kind, words, inner = row[place]
    fields = [own for name, _, own in state["program"].kinds if name == kind][0]
    if field not in fields or not is_word(word):
        raise BadOrder(arguments)
    at = 1 + fields.index(field)
    turned = (kind, words[:at] + (word,) + words[at + 1:], inner)
    return _with_row(state, path[:-1], row[:place] + (turned,) + row[place + 1:], arguments)


def exchange(state, newer):
    check_programs(state["program"], newer)
    return {**state, "program": newer, "told": None}


def edit(state, way, rule, deed):
    if not is_way(state["writer"].labels, way):
        raise BadWay(way)
    if not is_rule(rule):
        raise BadRule(rule)
    if not is_deed(deed):
        raise BadEdits((way, rule, deed))
    lines = titled_lines(state["writer"], state["source"], rule[2])
    memory = made_at(lines, way, rule)
    if memory is None:
        raise NotMade(way)
    number = state["made"]
    made = (number, way, rule, deed, memory, first_of_way(lines, way))
    return {**state, "hanging": (*state["hanging"], made), "made": number + 1, "told": number}


def drop(state, number):
    numbers = [own[0] for own in state["hanging"]]
    if not is_integer(number) or number not in numbers:
        raise BadNumber(number)
    return {**state, "hanging": tuple([own for own in state["hanging"] if own[0] != number]), "told": None}


def write(state):
    program, model = (state["program"], state["model"])
    hanging = []
    told = []
    for number, way, rule, deed, memory, _ in state["hanging"]:
        lines = titled_lines(program, model, rule[2])
        line = found_by(lines, memory, rule)
        told.append((number, fate_by(line, first_of_way(lines, way)), line))
        # Of what is found the same is remembered: it fits.
        hanging.append((number, way if line is None else lines[line][0], rule, deed, memory, line))
    faults = [(state["writings"], number, fate) for number, fate, _ in told if fate in WRONG]
    return {
        **state,
        "writer": program,
        "source": model,
        "lines": written(program, model),
        "hanging": tuple(hanging),
        "writings": state["writings"] + 1,
        "faults": (*state["faults"], *faults),
        "told": tuple(told),
    }


def _place_of(state, path, arguments):
    """The row in which the record with this path stands, and its place there."""
    if not isinstance(path, tuple) or path == ():
        raise BadOrder(arguments)
    row = row_at(state["model"], path[:-1])
    places = [] if row is None else [at for at, record in enumerate(row) if name_of(record) == path[-1]]
    if not places:
        raise BadOrder(arguments)
    return (row, places[0])


def _with_row(state, path, row, arguments):
    """The state with this row in the record with this path, if it makes a model."""
    model = with_row(state["model"], path, row)
    if not is_model(state["program"], model):
        raise BadOrder(arguments)
    return {**state, "model": model, "told": None}


ACTIONS = {
    "come": come,
    "go": go,
    "turn": turn,
    "exchange": exchange,
    "edit": edit,
    "drop": drop,
    "write": write,
}
