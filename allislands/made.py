"""Rules made: from a fan, and from the corners of a core."""

from allislands.broken import greatest_of, rounded_up
from allislands.checks import is_tuple_of
from allislands.cores import core, need_point
from allislands.errors import BadParameter, BadRule, NoRow, TooGreat, Unlike
from allislands.fans import need_fan
from allislands.fanwork import AXES, MOST_IN_FAN, directions_of, forms_behind, is_whole_cone, linear_fan
from allislands.fanwork import made_fan, neighbours, whole_forms
from allislands.needs import has_one_of, least_masks, needs_of
from allislands.places import crossed, inner, made_plain, put_in_order
from allislands.polygons import are_corners, inner_point

MOST_REFINED = 400
MOST_CORNERS = 12
TWO_OF_THREE = (((0, 0), (0, 1)), ((0, 0), (1, 0)), ((0, 1), (1, 0)))


def is_whole(fan):
    """Whether all forms of a fan have whole numbers."""
    need_fan(fan)
    for one, other in neighbours(fan):
        if not is_whole_cone(one, other):
            return False
    return True


def need_whole_cones(fan):
    """A whole fan, Unlike with the first two neighbours between which it is not."""
    need_fan(fan)
    for one, other in neighbours(fan):
        if not is_whole_cone(one, other):
            raise Unlike((one[0], other[0]))
    return fan


def unlike_forms(fan):
    """The forms of a whole fan, each once, ascending."""
    return sorted(set(whole_forms(fan)))


def all_refined(fan):
    """The directions of a whole fan and those at which two of its forms have one number, in order."""
    forms = unlike_forms(fan)
    found = directions_of(fan)
    for at, form in enumerate(forms):
        for other in forms[:at]:
            across, up = made_plain((form[1] - other[1], other[0] - form[0]))
            found += [(across, up), (-across, -up)]
    return put_in_order(found)


def refined(fan):
    """The directions between which all forms of a whole fan stand in one order."""
    need_whole_cones(fan)
    directions = all_refined(fan)
    if len(directions) > MOST_REFINED:
        raise TooGreat(MOST_REFINED)
    return tuple(directions)


def mask_above(forms, direction, number):
    """The set of the forms whose number at a direction is at least a number, one bit for each."""
    mask = 0
    for at, form in enumerate(forms):
        if inner(direction, form) >= number:
            mask |= 1 << at
    return mask


def needs_of_fan(fan):
    """The needs of the rule that a whole fan tells."""
    forms = unlike_forms(fan)
    bits = {(-first, -second): at for at, (first, second) in enumerate(forms)}
    directions = all_refined(fan)
    own = forms_behind(fan, directions)
    above = [mask_above(forms, direction, inner(direction, own[at])) for at, direction in enumerate(directions)]
    kept = []
    # In a cone no two forms change parts: one is above another all through it if it is so at its ends.
    for one, other in neighbours(above):
        if not has_one_of(one & other, kept):
            kept = least_masks(kept + [one & other])
    return needs_of(kept, bits)


def fan_rule(fan):
    """The rule whose speeds a whole fan tells."""
    need_whole_cones(fan)
    return needs_of_fan(fan)


def need_corners(points):
    """A tuple of points that tells corners as those of a core are told."""
    if not is_tuple_of(points, 0, MOST_CORNERS):
        raise BadParameter(points)
    for point in points:
        need_point(point)
    if not are_corners(points):
        raise BadParameter(points)
    return points


def side_direction(one, other):
    """The plain direction at right angles to the way from one point to another, to its right."""
    across = other[0] * one[2] - one[0] * other[2]
    up = other[1] * one[2] - one[1] * other[2]
    return made_plain((up, -across))


def sides_of(points):
    """The pairs (U, x) of the directions of the sides and the corners at which they begin; a stretch is
    told there and back.
    """
    if len(points) < 2:
        return []
    return [(side_direction(one, other), one) for one, other in neighbours(points)]


def weights(direction):
    """Integers (P, Q) with P * A + Q * B being 1, of a plain direction (A, B)."""
    first, second = direction
    here, there = (1, 0), (0, 1)
    while second != 0:
        times = first // second
        first, second = second, first - times * second
        here, there = there, (here[0] - times * there[0], here[1] - times * there[1])
    return (here[0] * first, here[1] * first)


def beside(direction, sign):
    """The direction W with U[0] * W[1] - U[1] * W[0] being 1 or -1, as the sign is, and with <U, W> from
    0 to less than <U, U>.
    """
    first, second = weights(direction)
    way = (-second * sign, first * sign)
    times = inner(direction, way) // inner(direction, direction)
    return (way[0] - times * direction[0], way[1] - times * direction[1])


def end_directions(direction, sign, point):
    """The two directions that are marked for an end of a stretch with a side's direction."""
    way = beside(direction, sign)
    times = inner_point(way, point)[1]
    across, up = times * way[0], times * way[1]
    return [(across + direction[0], up + direction[1]), (across - direction[0], up - direction[1])]


def thin_directions(points):
    """The directions that are marked for a stretch or a point."""
    if len(points) == 2:
        direction = side_direction(points[0], points[1])
    else:
        across, up = made_plain((points[0][1], -points[0][0]))
        direction = max((across, up), (-across, -up))
    found = [direction, (-direction[0], -direction[1])]
    return found + end_directions(direction, 1, points[-1]) + end_directions(direction, -1, points[0])


def next_between(one, other):
    """The direction between two neighbours with which `one` has the number 1 crossed."""
    parts = crossed(one, other)
    times = -inner(weights(one), other) % parts
    return ((other[0] + times * one[0]) // parts, (other[1] + times * one[1]) // parts)


def all_between(marked):
    """Some directions, the axes, and those between neighbours that are needed for whole forms."""
    directions = put_in_order(list(AXES) + marked)
    found = list(directions)
    for one, other in neighbours(directions):
        while crossed(one, other) > 1:
            one = next_between(one, other)
            found.append(one)
            if len(found) > MOST_IN_FAN:
                raise TooGreat(MOST_IN_FAN)
    return put_in_order(found)


def fan_of_corners(points):
    """The fan that is made for corners."""
    if len(points) == 0:
        raise NoRow()
    if len(points) == 1 and points[0][2] == 1:
        return linear_fan(points[0])
    sides = sides_of(points)
    for direction, begin in sides:
        if inner_point(direction, begin)[1] > 1:
            raise Unlike(direction)
    marked = [direction for direction, begin in sides] if len(points) > 2 else thin_directions(points)
    return made_fan([(direction, rounded_up(greatest_of([inner_point(direction, point) for point in points])))
                     for direction in all_between(marked)])


def core_fan(points):
    """A whole fan whose core has the corners told."""
    need_corners(points)
    return fan_of_corners(points)


def core_rule(points):
    """A rule whose core has the corners told."""
    need_corners(points)
    if len(points) == 0:
        return TWO_OF_THREE
    return needs_of_fan(fan_of_corners(points))


def is_core_rule(points, value):
    """Whether a value is a rule whose core has just the corners told."""
    need_corners(points)
    try:
        return core(value) == points
    except (BadRule, TooGreat):
        return False
