"""The lines of journals: of what a keeper has at first, and of its orders."""

from handkept.texts import deeper, lines_of_row
from handkept.wordings import show_deed, show_path, show_rule, show_way


def first_lines(program, model):
    """The lines ahead of the orders."""
    return ["program", *deeper(program.text.split("\n")), "model", *deeper(lines_of_row(model)), "orders"]


def order_lines(order):
    """The lines of an order, as they stand below the word orders."""
    word, *arguments = order
    lines = [" ".join([word, *_shown(word, arguments)])]
    if word == "come":
        lines.extend(deeper(lines_of_row((arguments[2],))))
    elif word == "exchange":
        lines.extend(deeper(arguments[0].text.split("\n")))
    return deeper(lines)


def _shown(word, arguments):
    """What stands behind the word of an order, on its line."""
    if word == "come":
        return [show_path(arguments[0]), str(arguments[1])]
    if word == "go":
        return [show_path(arguments[0])]
    if word == "turn":
        return [show_path(arguments[0]), arguments[1], arguments[2]]
    if word == "edit":
        return [show_way(arguments[0]), show_rule(arguments[1]), show_deed(arguments[2])]
    return [str(arguments[0])] if word == "drop" else []
