"""What values must look like, for all files."""

from allislands.errors import BadParameter


def is_integer(value):
    """Whether a value is an integer of any size."""
    # Python takes True and False for integers, the document does not.
    return isinstance(value, int) and not isinstance(value, bool)


def is_number(value, least, most):
    """Whether a value is an integer from least to most."""
    return is_integer(value) and least <= value <= most


def are_two(value):
    """Whether a value is a tuple of two things."""
    return isinstance(value, tuple) and len(value) == 2


def is_pair(value, size):
    """Whether a value is a pair of integers from -size to size."""
    return are_two(value) and is_number(value[0], -size, size) and is_number(value[1], -size, size)


def is_ascending(things):
    """Whether each thing comes behind the one ahead of it."""
    for at in range(1, len(things)):
        if things[at - 1] >= things[at]:
            return False
    return True


def are_places(things, size):
    """Whether all things of a tuple are pairs of integers from -size to size, and ascend."""
    for thing in things:
        if not is_pair(thing, size):
            return False
    return is_ascending(things)


def is_tuple_of(value, least, most):
    """Whether a value is a tuple of least to most things."""
    return isinstance(value, tuple) and least <= len(value) <= most


def need_number(value, least, most):
    """An integer from least to most, BadParameter for anything else."""
    if not is_number(value, least, most):
        raise BadParameter(value)
    return value
