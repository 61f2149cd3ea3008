"""Fans: functions of directions that are linear between finitely many of them."""

from allislands.broken import lowest
from allislands.checks import are_two, is_number, need_number
from allislands.errors import BadFan, NoRow, TooGreat
from allislands.fanwork import AXES, MOST_IN_FAN, broken_form, chosen, fan_by_words, fan_of_needs, fan_often
from allislands.fanwork import directions_of, is_whole_cone, joint_directions, made_fan, neighbours, only_bends
from allislands.fanwork import summed, turned_fan
from allislands.places import MOST_NUMBER, are_in_order, crossed, inner, is_direction, is_plain
from allislands.places import need_direction, need_place
from allislands.rules import need_rule
from allislands.speeds import speed_of
from allislands.terms import MOST_AGAIN, need_term


def is_fan_pair(value):
    """Whether a value is a pair of a plain direction and a number."""
    if not are_two(value) or not is_number(value[1], -MOST_NUMBER, MOST_NUMBER):
        return False
    return is_direction(value[0]) and is_plain(value[0])


def is_fan(value):
    """Whether a value is a fan as parameters are."""
    if not isinstance(value, tuple):
        return False
    for pair in value:
        if not is_fan_pair(pair):
            return False
    directions = directions_of(value)
    for axis in AXES:
        if axis not in directions:
            return False
    return are_in_order(directions) and only_bends(value) == value


def need_fan(fan):
    """A fan, BadFan for anything else."""
    if isinstance(fan, tuple) and len(fan) > MOST_IN_FAN:
        raise TooGreat(MOST_IN_FAN)
    if not is_fan(fan):
        raise BadFan(fan)
    return fan


def need_whole(fan):
    """A whole fan, BadFan for anything else."""
    need_fan(fan)
    for one, other in neighbours(fan):
        if not is_whole_cone(one, other):
            raise BadFan(fan)
    return fan


def fan_value(fan, direction):
    """The value of the function of a fan at the direction, in lowest terms."""
    need_fan(fan)
    need_direction(direction)
    for one, other in neighbours(fan):
        # A cone is at most a quarter of a round wide, so this asks whether the direction lies in it.
        if crossed(one[0], direction) >= 0 and crossed(direction, other[0]) > 0:
            break
    first, second, parts = broken_form(one, other)
    return lowest(inner(direction, (first, second)), parts)


def forms(fan):
    """The forms of the cones behind each direction of a fan, each a pair of broken numbers."""
    need_fan(fan)
    found = []
    for one, other in neighbours(fan):
        first, second, parts = broken_form(one, other)
        found.append((lowest(first, parts), lowest(second, parts)))
    return tuple(found)


def fan_of(rule):
    """The fan of the speeds of a rule."""
    need_rule(rule)
    return fan_of_needs(rule)


def fan_of_term(term):
    """The fan of the speeds of a term."""
    need_term(term)
    return fan_by_words(term)


def fan_most(one, other):
    """The fan of the greater value of two fans."""
    need_whole(one)
    need_whole(other)
    return chosen(one, other, True)


def fan_least(one, other):
    """The fan of the lesser value of two fans."""
    need_whole(one)
    need_whole(other)
    return chosen(one, other, False)


def fan_sum(one, other):
    """The fan of the sum of the values of two fans."""
    need_whole(one)
    need_whole(other)
    return summed(one, other)


def fan_turned(fan):
    """The fan of less the value at -U."""
    need_whole(fan)
    return turned_fan(fan)


def fan_times(fan, times):
    """The fan of so many times the value."""
    need_whole(fan)
    need_number(times, 0, MOST_AGAIN)
    return fan_often(fan, times)


def fan_moved(fan, place):
    """The fan of the value and <U, Q> more, Q being the place."""
    need_whole(fan)
    need_place(place)
    return made_fan([(direction, number + inner(direction, place)) for direction, number in fan])


def ways_faster(one, other):
    """The directions of the fans of two rules at which the first one is faster, in their order."""
    need_rule(one)
    need_rule(other)
    first = fan_of_needs(one)
    directions = joint_directions(first, fan_of_needs(other))
    return [direction for direction in directions if speed_of(one, direction) > speed_of(other, direction)]


def never_faster(one, other):
    """Whether the speed of one is at most that of other for all directions."""
    return len(ways_faster(one, other)) == 0


def faster_at(one, other):
    """The first direction of the fans of both rules at which one is faster."""
    found = ways_faster(one, other)
    if len(found) == 0:
        raise NoRow()
    return found[0]
