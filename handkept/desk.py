"""A desk, at which a keeper is led by lines of words."""

from handkept.errors import BadLine
from handkept.journals import read_journal
from handkept.stays import stays
from handkept.touched import touched
from handkept.twins import twins
from handkept.wordings import NOTHING, read_number, read_order, read_rule, read_word, show_way, whole


class Desk:
    """A keeper, by its journal."""

    def __init__(self, text):
        self.keeper = read_journal(text)

    def say(self, line):
        """The answer to a line."""
        if isinstance(line, str):
            words = line.split(" ")
            if words[0] in SAYINGS:
                saying = SAYINGS[words[0]]
                answer = saying(self.keeper, words)
                if answer is not None:
                    return answer
        raise BadLine(line)


def say_order(keeper, words):
    order = read_order(words)
    if order is None:
        return None
    told = keeper.do(order)
    if order[0] == "write":
        return show_rows(told)
    return str(told) if order[0] == "edit" else "ok"


def say_undo(keeper, words):
    if len(words) > 1:
        return None
    keeper.undo()
    return "ok"


def say_redo(keeper, words):
    if len(words) > 1:
        return None
    keeper.redo()
    return "ok"


def say_text(keeper, words):
    return show_lines(keeper.text) if len(words) == 1 else None


def say_edited(keeper, words):
    return show_lines(keeper.edited) if len(words) == 1 else None


def say_wrongs(keeper, words):
    return show_rows(keeper.wrongs()) if len(words) == 1 else None


def say_way(keeper, words):
    if len(words) != 2 or read_number(words[1]) is None:
        return None
    way = keeper.way_at(read_number(words[1]))
    return NOTHING if way is None else show_way(way)


def say_stays(keeper, words):
    if len(words) < 7:
        return None
    asked = whole([read_sheet(words[6:]), read_word(words[1]), read_rule(words[2:5]), read_word(words[5])])
    if asked is None:
        return None
    return "always" if stays(keeper.program, keeper.program, *asked)[0] == "always" else "wrong"


def say_twins(keeper, words):
    if len(words) != 2 or read_word(words[1]) is None:
        return None
    return show_labels(twins(keeper.program, words[1])[0])


def say_touched(keeper, words):
    asked = whole([read_word(word) for word in words[1:]])
    if asked is None or len(asked) != 2:
        return None
    return show_labels(touched(keeper.program, *asked)[0])


def read_sheet(words):
    """A sheet, of these words; None if it is of no such form."""
    if words == [NOTHING]:
        return ()
    return whole([read_leave(leave.split(" ")) for leave in " ".join(words).split(", ")])


def read_leave(words):
    """What may happen to records, of these words; None if it is of no such form."""
    if len(words) != (3 if words[0] == "turn" else 2) or words[0] not in ("come", "go", "turn"):
        return None
    return whole([read_word(word) for word in words])


def show_rows(rows):
    """Rows of integers and words, or None."""
    shown = [" ".join([NOTHING if part is None else str(part) for part in row]) for row in rows]
    return "; ".join(shown) or NOTHING


def show_lines(lines):
    return " / ".join([" ".join(words) for words in lines]) or NOTHING


def show_labels(rows):
    """The labels of the rows that have models."""
    return " ".join([row[0] for row in rows if row[1] is not None]) or NOTHING


SAYINGS = {
    "go": say_order,
    "turn": say_order,
    "drop": say_order,
    "edit": say_order,
    "write": say_order,
    "undo": say_undo,
    "redo": say_redo,
    "text": say_text,
    "edited": say_edited,
    "wrongs": say_wrongs,
    "way": say_way,
    "stays": say_stays,
    "twins": say_twins,
    "touched": say_touched,
}
