"""Stairs: what finitely many corners mark, each the common part of two half planes."""

from allislands.checks import is_pair, is_tuple_of, need_number
from allislands.errors import BadStair, NoRow, TooGreat, Unlike
from allislands.islands import let_places
from allislands.places import MOST_NUMBER, crossed, inner, need_direction, need_place
from allislands.rules import MOST_STEPS, need_rule
from allislands.speeds import speed_of

MOST_IN_STAIR = 60
MOST_WINDOW = 60
MOST_TIMES = 10 ** 30
ONE_CORNER = ((0, 0),)


def need_corners(corners):
    """A tuple of 1 to 60 corners in any order, BadStair for anything else."""
    if not is_tuple_of(corners, 1, MOST_IN_STAIR):
        raise BadStair(corners)
    for corner in corners:
        if not is_pair(corner, MOST_NUMBER):
            raise BadStair(corners)
    return corners


def greatest_corners(corners):
    """The stair of all that some corners mark, however many corners it has."""
    kept = []
    for corner in sorted(corners, reverse=True):
        if len(kept) == 0 or corner[1] > kept[-1][1]:
            kept.append(corner)
    return tuple(kept[::-1])


def need_stair(value):
    """A stair, BadStair for anything else."""
    need_corners(value)
    if greatest_corners(value) != value:
        raise BadStair(value)
    return value


def let_corners(stair):
    """A stair, TooGreat(60) if it has more corners than that."""
    if len(stair) > MOST_IN_STAIR:
        raise TooGreat(MOST_IN_STAIR)
    return stair


def stair_of(corners):
    """The stair that marks what any of some corners does."""
    need_corners(corners)
    return greatest_corners(corners)


def need_ways(u, v):
    """Two directions by which each pair of integers tells one place."""
    need_direction(u)
    need_direction(v)
    if crossed(u, v) not in (1, -1):
        raise Unlike(crossed(u, v))


def numbers_at(u, v, place):
    """<U, P> and <V, P>."""
    return (inner(u, place), inner(v, place))


def is_marked(stair, pair):
    """Whether some corner of a stair has both numbers at least as great."""
    for corner in stair:
        if pair[0] <= corner[0] and pair[1] <= corner[1]:
            return True
    return False


def stair_holds(u, v, stair, place):
    """Whether a stair marks a place."""
    need_ways(u, v)
    need_stair(stair)
    need_place(place)
    return is_marked(stair, numbers_at(u, v, place))


def moved_corners(stair, way):
    """A stair whose corners are moved by a pair of numbers."""
    return tuple([(first + way[0], second + way[1]) for first, second in stair])


def stair_moved(u, v, stair, place):
    """The stair of all marks moved by a place."""
    need_ways(u, v)
    need_stair(stair)
    need_place(place)
    return moved_corners(stair, numbers_at(u, v, place))


def joined_stair(one, other):
    """The stair of the marks of either of two stairs."""
    return let_corners(greatest_corners(one + other))


def corners_inside(one, other):
    """The corners of one stair, each as far as another one reaches there."""
    found = []
    at = 0
    for first, second in one:
        while at < len(other) and other[at][0] < first:
            at += 1
        if at < len(other):
            found.append((first, min(second, other[at][1])))
    return tuple(found)


def common_stair(one, other):
    """The stair of the marks of both of two stairs."""
    return let_corners(greatest_corners(corners_inside(one, other) + corners_inside(other, one)))


def stair_joined(one, other):
    """The stair of the marks of either of two stairs."""
    need_stair(one)
    need_stair(other)
    return joined_stair(one, other)


def stair_common(one, other):
    """The stair of the marks of both of two stairs."""
    need_stair(one)
    need_stair(other)
    return common_stair(one, other)


def led_by_need(need, u, v, stair):
    """The stair of what a need marks behind a step."""
    made = None
    for place in need:
        moved = moved_corners(stair, numbers_at(u, v, (-place[0], -place[1])))
        made = moved if made is None else common_stair(made, moved)
    return made


def led_stair(rule, u, v, stair):
    """The stair behind a step of a rule."""
    made = None
    for need in rule:
        led = led_by_need(need, u, v, stair)
        made = led if made is None else joined_stair(made, led)
    return made


def stair_stepped(rule, u, v, stair):
    """The stair behind a step of a rule."""
    need_rule(rule)
    need_ways(u, v)
    need_stair(stair)
    return led_stair(rule, u, v, stair)


def stair_steps(rule, u, v, stair, times):
    """The stair behind so many steps of a rule."""
    need_rule(rule)
    need_ways(u, v)
    need_stair(stair)
    need_number(times, 0, MOST_STEPS)
    for _ in range(times):
        stair = led_stair(rule, u, v, stair)
    return stair


def is_corner_kept(rule, u, v):
    """Whether a corner is one corner again behind a step."""
    need_rule(rule)
    need_ways(u, v)
    return len(led_stair(rule, u, v, ONE_CORNER)) == 1


def corner_after(rule, u, v, times):
    """The stair behind so many steps of a corner that is kept."""
    need_rule(rule)
    need_ways(u, v)
    need_number(times, 0, MOST_TIMES)
    if len(led_stair(rule, u, v, ONE_CORNER)) > 1:
        raise NoRow()
    return ((times * speed_of(rule, u), times * speed_of(rule, v)),)


def place_of(u, v, pair):
    """The place P with <U, P> and <V, P> being the numbers of a pair."""
    sign = crossed(u, v)
    return (sign * (v[1] * pair[0] - u[1] * pair[1]), sign * (u[0] * pair[1] - v[0] * pair[0]))


def corner_island(u, v, stair, size):
    """The island of the marked places that lie near enough to the ends of a stair."""
    need_ways(u, v)
    need_stair(stair)
    need_number(size, 1, MOST_WINDOW)
    last, first = stair[-1][0], stair[0][1]
    pairs = [(last - left, first - low) for left in range(size) for low in range(size)]
    return let_places(tuple(sorted([place_of(u, v, pair) for pair in pairs if is_marked(stair, pair)])))
