"""Islands: sets of places, as ascending tuples."""

from allislands.checks import are_places, is_tuple_of, need_number
from allislands.errors import BadIsland, NoRow, TooGreat
from allislands.places import MOST_IN_PLACE, inner, need_direction, need_place

MOST_PLACES = 400


def is_island(value):
    """Whether a value is an island as parameters have it."""
    return is_tuple_of(value, 0, MOST_PLACES) and are_places(value, MOST_IN_PLACE)


def need_island(value):
    """An island, BadIsland for anything else."""
    if not is_island(value):
        raise BadIsland(value)
    return value


def let_places(places):
    """The places, TooGreat(400) if they are more than an island may have."""
    if len(places) > MOST_PLACES:
        raise TooGreat(MOST_PLACES)
    return places


def all_moved(places, place):
    """Any tuple of places, each moved by the place, in their order."""
    return tuple([(first + place[0], second + place[1]) for first, second in places])


def all_joined(one, other):
    """The places of either of any two tuples, ascending, however many."""
    return tuple(sorted(set(one) | set(other)))


def all_common(one, other):
    """The places of both of any two tuples, ascending."""
    return tuple(sorted(set(one) & set(other)))


def reach_of(places, direction):
    """The greatest <U, P> of some places P, of which there must be one."""
    return max([inner(direction, place) for place in places])


def shifted(island, place):
    """The island moved by the place."""
    need_island(island)
    need_place(place)
    return all_moved(island, place)


def box(width, height):
    """The island of all places of a box with its least corner at (0, 0)."""
    need_number(width, 1, MOST_PLACES)
    need_number(height, 1, MOST_PLACES)
    if width * height > MOST_PLACES:
        raise TooGreat(MOST_PLACES)
    return tuple([(first, second) for first in range(width) for second in range(height)])


def joined(one, other):
    """The places of either island."""
    need_island(one)
    need_island(other)
    return let_places(all_joined(one, other))


def common(one, other):
    """The places of both islands."""
    need_island(one)
    need_island(other)
    return all_common(one, other)


def without(one, other):
    """The places of one that are not of other."""
    need_island(one)
    need_island(other)
    return tuple(sorted(set(one) - set(other)))


def within(one, other):
    """Whether all places of one are of other."""
    need_island(one)
    need_island(other)
    return len(set(one) - set(other)) == 0


def reach(island, direction):
    """The greatest <U, P> of a marked place P."""
    need_island(island)
    need_direction(direction)
    if len(island) == 0:
        raise NoRow()
    return reach_of(island, direction)
