"""Texts of lines, of which those that belong to another one stand below it, two blanks deeper."""

from handkept.errors import BadText

BLANKS = 2


class Lines:
    """Lines of a text, read one behind the other; at tells how many were read.

    A reader goes on by a line only if some right text begins so. Therefore what is wrong is always
    the line that comes next, or the want of one.
    """

    def __init__(self, lines):
        self.lines = [_parted(line) for line in lines]
        self.at = 0

    def words_at(self, depth):
        """The words of the line that comes next if it stands so deep, otherwise none."""
        if self.at == len(self.lines):
            return []
        blanks, words = self.lines[self.at]
        return words if blanks == BLANKS * depth else []

    def begins(self, depth, word):
        """Whether the line that comes next stands so deep and begins with this word."""
        return self.words_at(depth)[:1] == [word]

    def need(self, holds):
        """Refuses the line that comes next if this does not hold of it."""
        if not holds:
            raise BadText(self.at + 1)


def _parted(line):
    # Blanks that are doubled or at the end make words that are empty, which stand in no form.
    rest = line.lstrip(" ")
    return (len(line) - len(rest), rest.split(" "))
