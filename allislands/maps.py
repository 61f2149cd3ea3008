"""Changes of the board: whole places led to whole places, all of them met."""

from allislands.checks import are_two, is_pair
from allislands.cores import need_point
from allislands.errors import BadMap, NoRow
from allislands.islands import all_moved, need_island
from allislands.places import MOST_IN_DIRECTION, crossed, inner, need_direction, need_place
from allislands.rules import need_rule

# All that have 0, 1 and -1 alone, each row and each column with one 0.
TURNS = (
    ((-1, 0), (0, -1)), ((-1, 0), (0, 1)), ((0, -1), (-1, 0)), ((0, -1), (1, 0)),
    ((0, 1), (-1, 0)), ((0, 1), (1, 0)), ((1, 0), (0, -1)), ((1, 0), (0, 1)),
)


def is_change(value):
    """Whether a value is a change of the board as parameters are."""
    if not are_two(value):
        return False
    for row in value:
        if not is_pair(row, MOST_IN_DIRECTION):
            return False
    return crossed(value[0], value[1]) in (1, -1)


def need_change(change):
    """A change of the board, BadMap for anything else."""
    if not is_change(change):
        raise BadMap(change)
    return change


def led_place(place, change):
    """The place to which a change leads a place."""
    return (inner(change[0], place), inner(change[1], place))


def led_places(places, change):
    """The ascending tuple of the places to which a change leads some places."""
    return tuple(sorted([led_place(place, change) for place in places]))


def led_needs(needs, change):
    """The needs to which a change leads some needs, ascending."""
    return tuple(sorted([led_places(need, change) for need in needs]))


def undone(change):
    """The change that leads all back."""
    (first, second), (third, fourth) = change
    # The sign is 1 or -1, so to divide by it is to multiply by it.
    sign = crossed(change[0], change[1])
    return ((sign * fourth, -sign * second), (-sign * third, sign * first))


def mapped_place(place, change):
    """The place to which a change leads a place."""
    need_place(place)
    need_change(change)
    return led_place(place, change)


def mapped_island(island, change):
    """The island to which a change leads an island."""
    need_island(island)
    need_change(change)
    return led_places(island, change)


def mapped_point(point, change):
    """The point to which a change leads a point."""
    need_point(point)
    need_change(change)
    # The change can be undone, so no new common divisor comes.
    return led_place(point, change) + (point[2],)


def mapped_rule(rule, change):
    """The rule all of whose needs are led by a change."""
    need_rule(rule)
    need_change(change)
    return led_needs(rule, change)


def mapped_direction(direction, change):
    """The direction V with <V, P'> = <U, P> for all places P, led to P', and the direction U."""
    need_direction(direction)
    need_change(change)
    # <V, P'> = <V', P> with V' led by the change with rows and columns changed, so V is led back by it.
    (first, second), (third, fourth) = undone(change)
    return led_place(direction, ((first, third), (second, fourth)))


def undone_change(change):
    """The change that leads all back."""
    need_change(change)
    return undone(change)


def change_behind(one, other):
    """The change that does one and then other."""
    need_change(one)
    need_change(other)
    columns = [led_place((one[0][at], one[1][at]), other) for at in (0, 1)]
    return ((columns[0][0], columns[1][0]), (columns[0][1], columns[1][1]))


def turns_of(rule):
    """The turns that lead a rule to itself, ascending."""
    need_rule(rule)
    return tuple([turn for turn in TURNS if led_needs(rule, turn) == rule])


def least_place(needs):
    """The least place of all needs."""
    return min([need[0] for need in needs])


def turned_to(one, other):
    """The least pair of a turn and a place such that other is one led by it, then moved by the place."""
    need_rule(one)
    need_rule(other)
    for turn in TURNS:
        needs = led_needs(one, turn)
        # Moved by a place each place of a need goes the other way; the least one stays the least one.
        start, end = least_place(needs), least_place(other)
        way = (end[0] - start[0], end[1] - start[1])
        if tuple([all_moved(need, way) for need in needs]) == other:
            return (turn, (-way[0], -way[1]))
    raise NoRow()
