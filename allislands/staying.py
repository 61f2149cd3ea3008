"""Rules in which marks stay: what holds them, where they spread, what they fill."""

from allislands.checks import is_tuple_of
from allislands.cores import core_of
from allislands.errors import BadParameter, NoRow
from allislands.fanwork import AXES, directions_of, fan_of_needs, neighbours, numbers_of
from allislands.islands import let_places, need_island, reach_of
from allislands.places import crossed, is_direction, is_round, made_plain, put_in_order
from allislands.polygons import least_point
from allislands.rules import all_stepped, fits, need_rule
from allislands.speeds import speed_of

HERE = ((0, 0),)
ORIGIN = (0, 0, 1)


def is_staying(rule):
    """Whether no step of a rule takes a mark away."""
    need_rule(rule)
    return HERE in rule


def need_staying(rule):
    """A rule in which marks stay, NoRow for another one."""
    if HERE not in rule:
        raise NoRow()
    return rule


def last_of_arc(flat, at):
    """Where the arc ends that has begun at a place; `flat` tells for each direction if it stands."""
    while flat[(at + 1) % len(flat)]:
        at = (at + 1) % len(flat)
    return at


def standing(rule):
    """The arcs of the directions whose speed is 0."""
    need_rule(rule)
    need_staying(rule)
    fan = fan_of_needs(rule)
    # No speed is below 0, so between two neighbours it is 0 exactly if it is 0 at both of them.
    flat = [number == 0 for number in numbers_of(fan)]
    if False not in flat:
        return tuple(neighbours(AXES))
    ways = directions_of(fan)
    return tuple([(way, ways[last_of_arc(flat, at)]) for at, way in enumerate(ways) if flat[at] and not flat[at - 1]])


def round_of(directions):
    """Three or four of some directions in their order that are a round as all of them are."""
    first = directions[0]
    ahead = [direction for direction in directions if crossed(first, direction) > 0]
    behind = directions[len(ahead) + 1:]
    # The next one may be right opposite the first one, then it needs the one behind it, too.
    return [first, ahead[-1]] + behind[:2]


def hold_of(rule):
    """A hold of a rule."""
    need_rule(rule)
    need_staying(rule)
    directions = [direction for direction, number in fan_of_needs(rule) if number == 0]
    if not is_round(directions):
        raise NoRow()
    return tuple(round_of(directions))


def is_wide(value):
    """Whether a value is a tuple of three or four directions, one of which leads ahead to each place
    but (0, 0).
    """
    if not is_tuple_of(value, 3, 4):
        return False
    for direction in value:
        if not is_direction(direction):
            return False
    return is_round(put_in_order([made_plain(direction) for direction in value]))


def are_standing(rule, directions):
    """Whether all speeds of a rule for some directions are 0."""
    for direction in directions:
        if speed_of(rule, direction) != 0:
            return False
    return True


def is_hold(rule, value):
    """Whether a value is a hold of a rule."""
    need_rule(rule)
    need_staying(rule)
    return is_wide(value) and are_standing(rule, value)


def held(rule, island, hold):
    """The numbers of the half planes of a hold that hold an island for ever."""
    need_rule(rule)
    need_island(island)
    if not is_wide(hold) or (HERE in rule and not are_standing(rule, hold)):
        raise BadParameter(hold)
    need_staying(rule)
    if len(island) == 0:
        raise NoRow()
    return tuple([reach_of(island, direction) for direction in hold])


def spreads_to(rule):
    """The least corner of the core that is not (0, 0, 1)."""
    need_rule(rule)
    need_staying(rule)
    points = [corner for corner in core_of(rule) if corner != ORIGIN]
    if len(points) == 0:
        raise NoRow()
    return least_point(points)


def newly_marked(rule, marked, place):
    """The places that a step marks by needs that ask a place, as far as they are not marked yet."""
    found = []
    for need in rule:
        for across, up in need:
            first, second = place[0] - across, place[1] - up
            if (first, second) not in marked and fits(need, marked, first, second):
                found.append((first, second))
    return found


def filled(rule, island):
    """The island of all places that are marked behind some number of steps."""
    need_rule(rule)
    need_island(island)
    need_staying(rule)
    marked = {place: True for place in island}
    fresh = list(island)
    while len(fresh) > 0:
        place = fresh.pop()
        for found in newly_marked(rule, marked, place):
            if found not in marked:
                marked[found] = True
                fresh.append(found)
        let_places(marked)
    return tuple(sorted(marked))


def is_filled(rule, island):
    """Whether a step leaves an island as it is."""
    need_rule(rule)
    need_island(island)
    need_staying(rule)
    return all_stepped(rule, island) == island
