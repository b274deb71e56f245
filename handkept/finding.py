"""Titles of lines, what an edit remembers of its line, and the line that is found by it."""

from handkept.models import lines_of_part


def titled_lines(program, model, under):
    """The list of (way, words, title) of all lines; title is "" everywhere if under is ""."""
    lines = []
    for part in program.parts:
        title = ""
        for way, words in lines_of_part(part, model):
            lines.append((way, words, title))
            # No word is "".
            if words[0] == under:
                title = words[1] if len(words) > 1 else ""
    return lines


def first_of_way(lines, way):
    """The number of the first line of this way, None without one."""
    for number, line in enumerate(lines):
        if line[0] == way:
            return number
    return None


def memory_of(line, skipped):
    """What is remembered of a line: its words, "" at the places that are skipped, and its title."""
    _, words, title = line
    return (tuple(["" if at in skipped else word for at, word in enumerate(words)]), title)


def found_by(lines, memory, rule):
    """The number of the line that is found by what is remembered, None if none is."""
    word, skipped, _ = rule
    # As no word is "", a line fits if just the same is remembered of it.
    fitting = [number for number, line in enumerate(lines) if memory_of(line, skipped) == memory]
    if word == "first":
        return fitting[0] if fitting else None
    return fitting[0] if len(fitting) == 1 else None


def made_at(lines, way, rule):
    """What an edit at this way remembers, None if it is not made in a text of these lines."""
    number = first_of_way(lines, way)
    if number is None:
        return None
    memory = memory_of(lines[number], rule[1])
    return memory if found_by(lines, memory, rule) == number else None
