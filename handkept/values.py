"""What any value may be, asked of it without a failure."""


def is_integer(value):
    """Whether any value is an integer: an int that is not a bool."""
    return isinstance(value, int) and not isinstance(value, bool)


def is_tuple_of(value, length):
    """Whether any value is a tuple of so many."""
    return isinstance(value, tuple) and len(value) == length


def is_ascending(values):
    """Whether values that can be held against one another are sorted, without duplicates."""
    return all([values[at] < values[at + 1] for at in range(len(values) - 1)])


def is_same(told, value):
    """Whether any value is just what is told, made of tuples, strings and integers: True is not 1."""
    if isinstance(told, tuple):
        return is_tuple_of(value, len(told)) and all([is_same(own, other) for own, other in zip(told, value)])
    return isinstance(value, bool) == isinstance(told, bool) and value == told
