"""Dooms: papers that show that all islands die, and by when they do."""

from math import gcd

from allislands.checks import is_tuple_of, need_number
from allislands.errors import BadParameter, NoRow, TooGreat
from allislands.fanwork import directions_of, fan_of_needs, numbers_of
from allislands.islands import box, let_places, need_island, reach_of
from allislands.places import crossed, is_direction
from allislands.polygons import corners_of
from allislands.rules import MOST_STEPS, all_stepped, need_rule
from allislands.speeds import speed_of

MOST_STEPS_TOLD = 10 ** 30
MOST_WIDE = 20


def threes_with(directions, at, other, parts):
    """As `balances` does, those of three directions, the first two of which have `parts` crossed."""
    found = []
    for third in range(other + 1, len(directions)):
        ahead, behind = crossed(directions[other], directions[third]), crossed(directions[third], directions[at])
        if ahead > 0 and behind > 0:
            most = gcd(gcd(parts, ahead), behind)
            found.append(((ahead // most, at), (behind // most, other), (parts // most, third)))
    return found


def balances(directions):
    """All choices of two or three of some plain directions, in their order, that have the sum (0, 0) if
    each is taken so often, as tuples of pairs (TIMES, AT).

    Half planes of these directions have nothing in common exactly if the numbers of some choice,
    taken so often, have a sum below 0.
    """
    found = []
    for at, direction in enumerate(directions):
        for other in range(at + 1, len(directions)):
            parts = crossed(direction, directions[other])
            if parts == 0:
                found.append(((1, at), (1, other)))
            if parts > 0:
                found += threes_with(directions, at, other, parts)
    return found


def balanced_sum(balance, numbers):
    """The sum of the numbers of a choice, each taken so often."""
    return sum([times * numbers[at] for times, at in balance])


def doom_of(rule):
    """A doom of a rule."""
    need_rule(rule)
    fan = fan_of_needs(rule)
    for balance in balances(directions_of(fan)):
        if balanced_sum(balance, numbers_of(fan)) < 0:
            return tuple([(times * fan[at][0][0], times * fan[at][0][1]) for times, at in balance])
    raise NoRow()


def sum_of_speeds(rule, directions):
    """The sum of the speeds of a rule for some directions."""
    return sum([speed_of(rule, direction) for direction in directions])


def is_doom_of(rule, value):
    """Whether a value is a doom of a rule that is one."""
    if not is_tuple_of(value, 2, 3):
        return False
    for direction in value:
        if not is_direction(direction):
            return False
    for at in (0, 1):
        if sum([direction[at] for direction in value]) != 0:
            return False
    return sum_of_speeds(rule, value) < 0


def is_doom(rule, value):
    """Whether a value is a doom of the rule."""
    need_rule(rule)
    return is_doom_of(rule, value)


def need_doom(rule, doom):
    """A doom of the rule, BadParameter for anything else."""
    if not is_doom_of(rule, doom):
        raise BadParameter(doom)
    return doom


def held_by(rule, island, doom, steps):
    """The numbers of the half planes that hold all marks behind so many steps, one for each direction
    of the doom.
    """
    need_rule(rule)
    need_island(island)
    need_doom(rule, doom)
    need_number(steps, 0, MOST_STEPS_TOLD)
    if len(island) == 0:
        raise NoRow()
    return tuple([reach_of(island, direction) + steps * speed_of(rule, direction) for direction in doom])


def steps_to_below(number, speed):
    """The least number of steps behind which a number from 0 on is below 0, by a speed below 0."""
    return number // -speed + 1


def gone_with(island, doom, speed):
    """The least number of steps at which half planes that hold an island have nothing in common; the
    directions of the doom are theirs, the sum of their speeds is below 0.
    """
    if len(island) == 0:
        return 0
    return steps_to_below(sum([reach_of(island, direction) for direction in doom]), speed)


def gone_by(rule, island, doom):
    """The least number of steps at which the half planes of the doom have nothing in common."""
    need_rule(rule)
    need_island(island)
    need_doom(rule, doom)
    return gone_with(island, doom, sum_of_speeds(rule, doom))


def need_empty_core(rule):
    """Refuses a rule whose core is not empty."""
    if len(corners_of(fan_of_needs(rule))) > 0:
        raise NoRow()


def step_left_with(rule, island, steps):
    """The least number of steps behind which an island has no mark left, None if it is more than so many."""
    done = 0
    while len(island) > 0:
        if done == steps:
            return None
        island = let_places(all_stepped(rule, island))
        done += 1
    return done


def last_step(rule, width, height):
    """The least number of steps behind which a whole box has no mark left."""
    need_rule(rule)
    need_number(width, 1, MOST_WIDE)
    need_number(height, 1, MOST_WIDE)
    need_empty_core(rule)
    steps = step_left_with(rule, box(width, height), MOST_STEPS)
    if steps is None:
        raise TooGreat(MOST_STEPS)
    return steps


def all_within(rule, width, height, steps):
    """Whether all islands within such a box have no mark left behind so many steps."""
    need_rule(rule)
    need_number(width, 1, MOST_WIDE)
    need_number(height, 1, MOST_WIDE)
    need_number(steps, 0, MOST_STEPS)
    need_empty_core(rule)
    return step_left_with(rule, box(width, height), steps) is not None
