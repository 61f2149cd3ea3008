"""What holds for all numbers of steps: how far marks reach, and which ones are kept."""

from allislands.broken import is_less
from allislands.checks import need_number
from allislands.cores import need_point
from allislands.dooms import MOST_STEPS_TOLD, balanced_sum, balances, steps_to_below
from allislands.errors import NoRow
from allislands.fanwork import directions_of, fan_of_needs, numbers_of
from allislands.islands import need_island, reach_of
from allislands.living import MOST_SIZE, moved_sides, need_ring, size_to_live
from allislands.places import inner, need_direction, need_place
from allislands.polygons import corners_of
from allislands.rules import need_rule
from allislands.speeds import speed_of


def need_steps(steps):
    """A number of steps, BadParameter for anything else."""
    return need_number(steps, 0, MOST_STEPS_TOLD)


def need_marks(island):
    """An island that has marks, NoRow for the one that has none."""
    if len(island) == 0:
        raise NoRow()
    return island


def sides(rule, island):
    """The pairs (U, M) for the directions U of the rule's fan, M the greatest <U, P> of a mark P."""
    need_rule(rule)
    need_island(island)
    need_marks(island)
    return tuple([(direction, reach_of(island, direction)) for direction in directions_of(fan_of_needs(rule))])


def reach_then(rule, island, direction, steps):
    """The greatest <U, P> of a mark P and so many times the speed of U."""
    return reach_of(island, direction) + steps * speed_of(rule, direction)


def reach_after(rule, island, direction, steps):
    """The number that <U, P> of no mark P behind so many steps is above, U being the direction."""
    need_rule(rule)
    need_island(island)
    need_direction(direction)
    need_steps(steps)
    need_marks(island)
    return reach_then(rule, island, direction, steps)


def width_after(rule, island, direction, steps):
    """The number that <U, P> of two marks P behind so many steps never differ by more than."""
    need_rule(rule)
    need_island(island)
    need_direction(direction)
    need_steps(steps)
    need_marks(island)
    about = (-direction[0], -direction[1])
    return reach_then(rule, island, direction, steps) + reach_then(rule, island, about, steps)


def after(rule, island, steps):
    """The corners of a set in which all marks behind so many steps lie."""
    need_rule(rule)
    need_island(island)
    need_steps(steps)
    need_marks(island)
    fan = fan_of_needs(rule)
    return corners_of([(direction, reach_of(island, direction) + steps * number) for direction, number in fan])


def empty_from(rule, island):
    """The least number of steps for which that set is nothing."""
    need_rule(rule)
    need_island(island)
    need_marks(island)
    fan = fan_of_needs(rule)
    reaches = [reach_of(island, direction) for direction in directions_of(fan)]
    found = []
    for balance in balances(directions_of(fan)):
        speed = balanced_sum(balance, numbers_of(fan))
        if speed < 0:
            found.append(steps_to_below(balanced_sum(balance, reaches), speed))
    if len(found) == 0:
        raise NoRow()
    return min(found)


def covers_all(rule):
    """Whether all speeds of a rule are above 0."""
    need_rule(rule)
    return min(numbers_of(fan_of_needs(rule))) > 0


def need_kept(rule, point, ring, size, steps):
    """The parameters of both functions below, each as it must be."""
    need_rule(rule)
    need_point(point)
    need_ring(rule, point, ring)
    need_number(size, size_to_live(rule, point, ring), MOST_SIZE)
    need_steps(steps)


def kept_after(rule, point, ring, size, steps):
    """The half planes whose common part is the frame polygon of a ring moved by so many steps."""
    need_kept(rule, point, ring, size, steps)
    return tuple(moved_sides(ring, size, point, steps))


def is_kept(rule, point, ring, size, steps, place):
    """Whether a place lies in the frame polygon of a ring moved by so many steps."""
    need_kept(rule, point, ring, size, steps)
    need_place(place)
    for direction, number in moved_sides(ring, size, point, steps):
        if is_less(number, (inner(direction, place), 1)):
            return False
    return True
