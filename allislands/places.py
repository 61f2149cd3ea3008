"""Places, directions, half planes."""

from math import gcd

from allislands.checks import is_pair, is_tuple_of, need_number
from allislands.errors import BadDirection, BadParameter, BadPlace

MOST_IN_PLACE = 10 ** 9
MOST_IN_DIRECTION = 10 ** 6
MOST_NUMBER = 10 ** 60
MOST_DIRECTIONS = 60


def is_place(value):
    """Whether a value is a place as parameters have it."""
    return is_pair(value, MOST_IN_PLACE)


def need_place(value):
    """A place, BadPlace for anything else."""
    if not is_place(value):
        raise BadPlace(value)
    return value


def is_direction(value):
    """Whether a value is a direction as parameters have it."""
    return is_pair(value, MOST_IN_DIRECTION) and value != (0, 0)


def need_direction(value):
    """A direction, BadDirection for anything else."""
    if not is_direction(value):
        raise BadDirection(value)
    return value


def need_great_number(value):
    """An integer from -10 ** 60 to 10 ** 60, BadParameter for anything else."""
    return need_number(value, -MOST_NUMBER, MOST_NUMBER)


def inner(direction, place):
    """<U, P>, of any pairs of integers."""
    return direction[0] * place[0] + direction[1] * place[1]


def dot(direction, place):
    """<U, P> for the direction U and the place P."""
    need_direction(direction)
    need_place(place)
    return inner(direction, place)


def in_half(direction, number, place):
    """Whether the place lies in the half plane (direction, number)."""
    need_direction(direction)
    need_great_number(number)
    need_place(place)
    return inner(direction, place) <= number


def made_plain(direction):
    """The plain direction that leads the same way, of any pair but (0, 0)."""
    most = gcd(direction[0], direction[1])
    return (direction[0] // most, direction[1] // most)


def is_plain(direction):
    """Whether the numbers of any pair of integers have no common divisor but 1."""
    return gcd(direction[0], direction[1]) == 1


def least_direction(direction):
    """The plain direction that leads the same way."""
    need_direction(direction)
    return made_plain(direction)


def turned_left(direction):
    """The direction a quarter to the left."""
    need_direction(direction)
    return (-direction[1], direction[0])


def is_first_half(direction):
    """Whether one meets a direction on the first half of the round from (1, 0) on."""
    return direction[1] > 0 or (direction[1] == 0 and direction[0] > 0)


def crossed(one, other):
    """A * D - B * C of the pairs (A, B), (C, D): above 0 if the way from one to other is to the left."""
    return one[0] * other[1] - one[1] * other[0]


def comes_before(one, other):
    """Whether one meets `one` ahead of `other` on the round from (1, 0) to the left."""
    if is_first_half(one) != is_first_half(other):
        return is_first_half(one)
    return crossed(one, other) > 0


def how_many_before(direction, ordered):
    """How many of some directions, which stand in their order, come before a direction."""
    least, most = 0, len(ordered)
    while least < most:
        at = (least + most) // 2
        if comes_before(ordered[at], direction):
            least = at + 1
        else:
            most = at
    return least


def put_in_order(directions):
    """Any plain directions, each once, as a list in the order of directions."""
    ordered = []
    for direction in sorted(set(directions)):
        ordered.insert(how_many_before(direction, ordered), direction)
    return ordered


def are_in_order(directions):
    """Whether each of some directions comes before the next one."""
    for at in range(1, len(directions)):
        if not comes_before(directions[at - 1], directions[at]):
            return False
    return True


def is_round(directions):
    """Whether of some directions in their order each is less than half a round ahead of the next
    one, the last one of the first one: so no half plane through (0, 0) holds them all.
    """
    for at, direction in enumerate(directions):
        if crossed(directions[at - 1], direction) <= 0:
            return False
    return len(directions) > 0


def in_order(directions):
    """The plain directions of a tuple of directions, each once, in their order."""
    if not is_tuple_of(directions, 0, MOST_DIRECTIONS):
        raise BadParameter(directions)
    for direction in directions:
        need_direction(direction)
    return tuple(put_in_order([made_plain(direction) for direction in directions]))
