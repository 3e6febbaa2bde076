"""What tells values of all kinds apart. A bool is no integer here."""


def is_integer(value):
    return isinstance(value, int) and not isinstance(value, bool)


def is_number(value):
    return is_integer(value) and value >= 0


def is_number_below(value, bound):
    """Whether any value is a number below a bound."""
    return is_number(value) and value < bound


def is_sequence(value):
    return isinstance(value, (list, tuple))


def is_tuple_of(value, length):
    """Whether any value is a tuple of so many items."""
    return isinstance(value, tuple) and len(value) == length


def lies_in(some, others):
    """Whether all of some stands or kinds are among the others."""
    return all([one in others for one in some])


def is_sign(value, signs):
    """Whether any value is a string of one of these signs alone."""
    return isinstance(value, str) and len(value) == 1 and value in signs


def is_same(value, told):
    """Whether any value is what is told: a number, a string, None, or a tuple of such.

    The sign == does not do: it takes True for 1.
    """
    if isinstance(told, tuple):
        return is_tuple_of(value, len(told)) and all([is_same(one, two) for one, two in zip(value, told)])
    if isinstance(told, str):
        return isinstance(value, str) and value == told
    if told is None:
        return value is None
    return is_integer(value) and value == told
