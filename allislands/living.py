"""Rings: papers that show that some islands live, and the polygons that do."""

from allislands.broken import lowest, rounded_up
from allislands.checks import are_two, is_integer, is_tuple_of, need_number
from allislands.cores import need_point
from allislands.errors import BadParameter, NoRow, TooGreat
from allislands.fanwork import neighbours
from allislands.islands import MOST_PLACES, all_moved, need_island
from allislands.places import are_in_order, inner, is_plain, is_round, made_plain, need_place, put_in_order
from allislands.rules import fits, need_rule

MOST_IN_FRAME = 400
MOST_SIZE = 10 ** 9
MOST_TIMES = 10 ** 30
MOST_SMALL = 2
# The point that moves nothing.
STILL = (0, 0, 1)


def is_way(value):
    """Whether a value is a plain direction of any size."""
    if not are_two(value) or not is_integer(value[0]) or not is_integer(value[1]):
        return False
    return is_plain(value)


def is_frame(value):
    """Whether a value is a frame."""
    if not is_tuple_of(value, 4, MOST_IN_FRAME):
        return False
    for direction in value:
        if not is_way(direction):
            return False
    known = {direction: True for direction in value}
    for first, second in value:
        if (-first, -second) not in known:
            return False
    return are_in_order(value) and is_round(value)


def need_frame(frame):
    """A frame, BadParameter for anything else."""
    if not is_frame(frame):
        raise BadParameter(frame)
    return frame


def ways_along(point, places):
    """D * A + (X, Y) for each place A: D times how much further than a point turned about it lies."""
    return [(point[2] * first + point[0], point[2] * second + point[1]) for first, second in places]


def is_led(direction, ways):
    """Whether <U, W> is at most 0 for all ways W."""
    return max([inner(direction, way) for way in ways]) <= 0


def led_masks(directions, groups):
    """For each direction the groups of ways that it leads, one bit for each."""
    masks = []
    for direction in directions:
        mask = 0
        for at, ways in enumerate(groups):
            if is_led(direction, ways):
                mask |= 1 << at
        masks.append(mask)
    return masks


def goes_on(masks):
    """Whether each two neighbours of some numbers have a bit in common."""
    for one, other in neighbours(masks):
        if one & other == 0:
            return False
    return True


def groups_of(rule, point):
    """The ways along a point of each need of a rule."""
    return [ways_along(point, need) for need in rule]


def beginnings_of(ways):
    """The first direction, going round to the left, by which some ways are led, and its opposite."""
    found = []
    for first, second in ways:
        # A way is led by the directions from a quarter to three quarters of a round to its left.
        if (first, second) != (0, 0):
            across, up = made_plain((-second, first))
            if is_led((across, up), ways):
                found += [(across, up), (-across, -up)]
    return found


def squared(direction):
    """<U, U>."""
    return inner(direction, direction)


def thinned(directions, masks):
    """Some directions that go on, each with its opposite, the greatest ones left out as far as the others
    still do so: then the polygons of the ring are smaller.
    """
    known = {direction: mask for direction, mask in zip(directions, masks)}
    kept = directions
    for first, second in sorted(directions, key=squared, reverse=True):
        rest = [direction for direction in kept if direction not in ((first, second), (-first, -second))]
        if is_round(rest) and goes_on([known[direction] for direction in rest]):
            kept = rest
    return tuple(kept)


def small_directions():
    """All plain directions with small numbers."""
    numbers = range(-MOST_SMALL, MOST_SMALL + 1)
    return [(across, up) for across in numbers for up in numbers if is_plain((across, up))]


def ring_of(rule, point):
    """A ring of a rule at a point."""
    need_rule(rule)
    need_point(point)
    groups = groups_of(rule, point)
    found = small_directions()
    for ways in groups:
        found += beginnings_of(ways)
    # Strictly between two of these no need begins to be led: what a direction shortly ahead of the second
    # one leads, both of them lead. They are at most two of each need, and the small ones.
    directions = put_in_order(found)
    masks = led_masks(directions, groups)
    if not goes_on(masks):
        raise NoRow()
    return thinned(directions, masks)


def is_ring_of(rule, point, value):
    """Whether a value is a ring of a rule at a point that are such."""
    return is_frame(value) and goes_on(led_masks(value, groups_of(rule, point)))


def is_ring(rule, point, value):
    """Whether a value is a ring of a rule at a point."""
    need_rule(rule)
    need_point(point)
    return is_ring_of(rule, point, value)


def need_ring(rule, point, ring):
    """A ring of the rule at the point, BadParameter for anything else."""
    if not is_ring_of(rule, point, ring):
        raise BadParameter(ring)
    return ring


def size_to_live(rule, point, ring):
    """The least integer from 1 on that is at least R(U) + R(V) for any two directions of a ring that
    are no neighbours.
    """
    ways = ways_along(point, [place for need in rule for place in need])
    reaches = [max(0, max([inner(direction, way) for way in ways])) for direction in ring]
    most = 0
    for at, reach in enumerate(reaches):
        # Neighbours stand side by side, or the one first and the other one last.
        last = len(reaches) - 1 if at == 0 else len(reaches)
        for other in reaches[at + 2:last]:
            most = max(most, reach + other)
    return max(1, rounded_up((most, point[2])))


def living_size(rule, point, ring):
    """The least size from which on the frame polygon of a ring lives."""
    need_rule(rule)
    need_point(point)
    need_ring(rule, point, ring)
    return size_to_live(rule, point, ring)


def corners_in(frame, size):
    """The corners of a frame polygon, each where the side of a direction begins."""
    found = []
    first, second = 0, 0
    for across, up in frame:
        found.append((first, second))
        first, second = first - size * up, second + size * across
    return tuple(found)


def frame_corners(frame, size):
    """The corners of a frame polygon, each where the side of a direction begins."""
    need_frame(frame)
    need_number(size, 1, MOST_SIZE)
    return corners_in(frame, size)


def moved_sides(frame, size, point, times):
    """The pairs (U, (N, D)) of the half planes whose common part is a frame polygon moved by so many
    times the point.
    """
    found = []
    for direction, corner in zip(frame, corners_in(frame, size)):
        number = inner(direction, corner) * point[2] + times * inner(direction, point)
        found.append((direction, lowest(number, point[2])))
    return found


def column(sides, first):
    """The least and the greatest second number of the places with a first number in half planes."""
    lows, highs = [], []
    for (across, up), (number, parts) in sides:
        left = number // parts - across * first
        if up > 0:
            highs.append(left // up)
        if up < 0:
            lows.append(-(left // -up))
    return (max(lows), min(highs))


def places_in(frame, size, point, times):
    """The island of all places in a frame polygon moved by so many times the point."""
    corners = corners_in(frame, size)
    for at in (0, 1):
        numbers = [corner[at] for corner in corners]
        if max(numbers) - min(numbers) > MOST_PLACES:
            raise TooGreat(MOST_PLACES)
    sides = moved_sides(frame, size, point, times)
    # From the least to the greatest first number, so upright sides ask nothing more.
    firsts = [corner[0] * point[2] + times * point[0] for corner in corners]
    found = []
    for first in range(rounded_up((min(firsts), point[2])), max(firsts) // point[2] + 1):
        low, high = column(sides, first)
        found += [(first, second) for second in range(low, high + 1)]
        if len(found) > MOST_PLACES:
            raise TooGreat(MOST_PLACES)
    return tuple(found)


def living_island(frame, size):
    """The island of all places in a frame polygon."""
    need_frame(frame)
    need_number(size, 1, MOST_SIZE)
    return places_in(frame, size, STILL, 0)


def living_at(frame, size, point, times):
    """The island of all places in a frame polygon moved by so many times the point."""
    need_frame(frame)
    need_number(size, 1, MOST_SIZE)
    need_point(point)
    need_number(times, 0, MOST_TIMES)
    return places_in(frame, size, point, times)


def holds_moved(rule, island, place):
    """Whether a step leads an island to marks among which all its places moved by a place are."""
    need_rule(rule)
    need_island(island)
    need_place(place)
    held = {each: True for each in island}
    for first, second in all_moved(island, place):
        if True not in [fits(need, held, first, second) for need in rule]:
            return False
    return True
