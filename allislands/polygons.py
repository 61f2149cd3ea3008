"""Points and the sets that finitely many half planes have in common.

A point is a triple (X, Y, D), the place (X / D, Y / D). A polygon is told by its corners, going
round it to the left; a stretch has two of them, a point one, nothing none.
"""

from math import gcd

from allislands.broken import lowest
from allislands.places import inner


def made_point(first, second, parts):
    """The point (first / parts, second / parts)."""
    most = gcd(gcd(first, second), parts)
    return (first // most, second // most, parts // most)


def inner_point(direction, point):
    """<U, x> of a point x, in lowest terms."""
    return lowest(inner(direction, point), point[2])


def is_lesser_point(one, other):
    """Whether a point is less than another one: by X / D, then by Y / D."""
    if one[0] * other[2] != other[0] * one[2]:
        return one[0] * other[2] < other[0] * one[2]
    return one[1] * other[2] < other[1] * one[2]


def least_point(points):
    """The least one of some points."""
    least = points[0]
    for point in points:
        if is_lesser_point(point, least):
            least = point
    return least


def turn(one, other, third):
    """Above 0 if one turns to the left from `one` by `other` to `third`, 0 if they lie on a line."""
    return (one[0] * (other[1] * third[2] - other[2] * third[1])
            - one[1] * (other[0] * third[2] - other[2] * third[0])
            + one[2] * (other[0] * third[1] - other[1] * third[0]))


def over(side, point):
    """How far a point lies out of the half plane (U, S), D times as much: above 0 if out of it."""
    return inner(side[0], point) - side[1] * point[2]


def each_once(points):
    """The points, each once, as a list."""
    kept = []
    for point in points:
        if point not in kept:
            kept.append(point)
    return kept


def cut(polygon, side):
    """What lies of a polygon in the half plane (U, S)."""
    kept = []
    for at, point in enumerate(polygon):
        before = polygon[at - 1]
        ahead, here = over(side, before), over(side, point)
        if ahead * here < 0:
            first = before[0] * abs(here) + point[0] * abs(ahead)
            second = before[1] * abs(here) + point[1] * abs(ahead)
            kept.append(made_point(first, second, before[2] * abs(here) + point[2] * abs(ahead)))
        if here <= 0:
            kept.append(point)
    # A stretch is passed there and back, so its new end comes twice.
    return each_once(kept)


def from_least(polygon):
    """The tuple of the corners of a polygon, the least one first."""
    if len(polygon) == 0:
        return ()
    at = polygon.index(least_point(polygon))
    return tuple(polygon[at:] + polygon[:at])


def corners_of(sides):
    """The corners, the least one first, of the set of all points x with <U, x> at most S for all
    pairs (U, S); the four axes must be among the directions U.
    """
    numbers = {direction: number for direction, number in sides}
    left, low = -numbers[(-1, 0)], -numbers[(0, -1)]
    right, high = numbers[(1, 0)], numbers[(0, 1)]
    # If left is beyond right, or low above high, then nothing is left of these behind the cuts.
    polygon = each_once([(left, low, 1), (right, low, 1), (right, high, 1), (left, high, 1)])
    for side in sides:
        polygon = cut(polygon, side)
    return from_least(polygon)


def are_corners(points):
    """Whether points stand as the corners of a set do: to the left, none between its neighbours,
    the least one first.
    """
    for at in range(1, len(points)):
        if not is_lesser_point(points[0], points[at]):
            return False
    for at in range(2, len(points)):
        # Seen from the first one each next one must lie further to the left: so they go round once.
        if turn(points[0], points[at - 1], points[at]) <= 0:
            return False
        if turn(points[at - 2], points[at - 1], points[at]) <= 0:
            return False
    return True
