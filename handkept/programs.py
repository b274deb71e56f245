"""Programs: what writes a text out of a model."""

from handkept.errors import BadText
from handkept.reading import ProgramReader


class Program:
    """A program, read from its text. parts are its passes, as handkept/reading.py tells their statements."""

    def __init__(self, text):
        if not isinstance(text, str):
            raise BadText(0)
        reader = ProgramReader(text)
        reader.read()
        self.text = text
        self.kinds = tuple(reader.kinds)
        self.labels = tuple(reader.labels)
        self.passes = len(reader.parts)
        self.parts = tuple(reader.parts)

    def __eq__(self, other):
        return isinstance(other, Program) and self.text == other.text
