"""Cores: the points that a rule can lead marks along."""

from allislands.broken import added, greatest_of, least_of, lowest
from allislands.checks import is_number
from allislands.errors import BadPoint, NoRow
from allislands.fans import need_fan
from allislands.fanwork import fan_by_words, fan_of_needs, neighbours
from allislands.places import MOST_NUMBER, crossed, need_direction
from allislands.polygons import corners_of, inner_point, made_point, over
from allislands.rules import need_rule
from allislands.terms import need_term


def is_point(value):
    """Whether a value is a point as parameters are."""
    if not isinstance(value, tuple) or len(value) != 3 or not is_number(value[2], 1, MOST_NUMBER):
        return False
    for number in value[:2]:
        if not is_number(number, -MOST_NUMBER, MOST_NUMBER):
            return False
    return made_point(value[0], value[1], value[2]) == value


def need_point(value):
    """A point, BadPoint for anything else."""
    if not is_point(value):
        raise BadPoint(value)
    return value


def core_of(needs):
    """The corners of the core of some needs."""
    return corners_of(fan_of_needs(needs))


def core(rule):
    """The corners of the core of a rule."""
    need_rule(rule)
    return core_of(rule)


def term_core(term):
    """The corners of the core of a term."""
    need_term(term)
    return corners_of(fan_by_words(term))


def fan_core(fan):
    """The corners of the set of all points x with <U, x> at most S for all pairs (U, S) of a fan."""
    need_fan(fan)
    return corners_of(fan)


def in_core(rule, point):
    """Whether a point lies in the core of a rule."""
    need_rule(rule)
    need_point(point)
    for side in fan_of_needs(rule):
        if over(side, point) > 0:
            return False
    return True


def is_empty(rule):
    """Whether the core of a rule is nothing."""
    return core(rule) == ()


def core_sides(rule):
    """The pairs (U, S) of the rule's fan whose lines meet the core."""
    need_rule(rule)
    fan = fan_of_needs(rule)
    corners = corners_of(fan)
    # A line of the fan has the whole core on one side, so it meets it at a corner or nowhere.
    return tuple([side for side in fan if 0 in [over(side, corner) for corner in corners]])


def core_widths(rule, direction):
    """The least and the greatest <U, x> of the points x of the core, U being the direction."""
    need_rule(rule)
    need_direction(direction)
    corners = core_of(rule)
    if len(corners) == 0:
        raise NoRow()
    numbers = [inner_point(direction, corner) for corner in corners]
    return (least_of(numbers), greatest_of(numbers))


def core_area(rule):
    """The area of the core."""
    corners = core(rule)
    twice = (0, 1)
    for one, other in neighbours(corners):
        twice = added(twice, (crossed(one, other), one[2] * other[2]))
    return lowest(twice[0], 2 * twice[1])


def common_core(one, other):
    """The corners of the common part of the cores of two rules."""
    need_rule(one)
    need_rule(other)
    sides = fan_of_needs(one)
    return corners_of(sides + fan_of_needs(other))
