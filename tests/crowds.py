"""Programs of which tables have a told number of members."""

import itertools

from handkept.programs import Program

LETTERS = "abcdefghij"


def crowded(known, lines):
    """A program with a line of two fields, so many known words, and so many lines in its begin.

    There are known ** 2 + 2 * known + 2 guesses of what is remembered of the line. Of each that is like a line
    of begin nothing comes; of every other one come two members, as long as nothing may happen.
    """
    words = [one + other for one in LETTERS for other in LETTERS][:known]
    pairs = [(words[at], words[(at + 1) % known]) for at in range(0, known, 2)]
    pairs += [pair for pair in itertools.product(words, words) if pair not in pairs]
    text = ["kind a", "  field x", "  field y", "pass", "  cell c 2", "  begin"]
    for number, (one, other) in enumerate(pairs[:lines]):
        if number % 36 == 0:
            text.append("    if c = 0")
        if number % 6 == 0:
            text.append("      if c = 0")
        text.append(f"        line l{LETTERS[number // 10 // 10]}{LETTERS[number // 10 % 10]}{LETTERS[number % 10]} {one} {other}")
    return Program("\n".join([*text, "  open a", "    line z a.x a.y"]))
