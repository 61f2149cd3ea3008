"""Rules: how a step leads marks, and rules put together."""

from allislands.checks import need_number
from allislands.errors import BadRule, NoRow
from allislands.islands import all_moved, is_island, let_places, need_island
from allislands.needs import behind_needs, both_needs, either_needs, fault_in_parts, fault_in_rule, is_need
from allislands.needs import least_needs, lone_needs, parting_need, power_needs
from allislands.places import need_place

MOST_STEPS = 60


def need_rule(rule):
    """A rule, BadRule for anything else."""
    fault = fault_in_rule(rule, is_need)
    if fault is not None:
        raise BadRule(fault)
    return rule


def is_rule(value):
    """Whether a value is a rule as parameters are."""
    return fault_in_rule(value, is_need) is None


def rule_of(needs):
    """The rule of the least ones of some needs."""
    fault = fault_in_parts(needs, is_need)
    if fault is not None:
        raise BadRule(fault)
    return least_needs(needs)


def fits(need, held, first, second):
    """Whether all places of a need, told from (first, second) on, are held."""
    for across, up in need:
        if (first + across, second + up) not in held:
            return False
    return True


def all_stepped(rule, island):
    """The ascending tuple of all places that a step marks, however many they are."""
    held = {place: True for place in island}
    marked = {}
    for need in rule:
        # A marked place has each place of the need over a held one, the first of them, too.
        across, up = need[0]
        for first, second in island:
            if fits(need, held, first - across, second - up):
                marked[(first - across, second - up)] = True
    return tuple(sorted(marked))


def stepped(rule, island):
    """The island to which a step leads an island."""
    need_rule(rule)
    need_island(island)
    return let_places(all_stepped(rule, island))


def stepped_times(rule, island, times):
    """The island to which so many steps lead an island."""
    need_rule(rule)
    need_island(island)
    need_number(times, 0, MOST_STEPS)
    for _ in range(times):
        island = let_places(all_stepped(rule, island))
    return island


def is_lesser(one, other):
    """Whether a step of one marks no place that a step of other does not, for all marks."""
    need_rule(one)
    need_rule(other)
    return len(lone_needs(one, other)) == 0


def parting_island(one, other):
    """An island behind whose step just one of the rules marks (0, 0)."""
    need_rule(one)
    need_rule(other)
    need = parting_need(one, other)
    if need is None:
        raise NoRow()
    return need


def is_parting(one, other, value):
    """Whether a value is an island whose steps by the two rules are unlike."""
    need_rule(one)
    need_rule(other)
    return is_island(value) and all_stepped(one, value) != all_stepped(other, value)


def either_marked(one, other):
    """The rule that marks what one of two marks."""
    need_rule(one)
    need_rule(other)
    return either_needs(one, other)


def both_marked(one, other):
    """The rule that marks what both of two mark."""
    need_rule(one)
    need_rule(other)
    return both_needs(one, other)


def behind(one, other):
    """The rule whose step is a step of one and then one of other."""
    need_rule(one)
    need_rule(other)
    return behind_needs(one, other)


def moved_by(rule, place):
    """The rule whose step is a step and then all marks moved by the place."""
    need_rule(rule)
    need_place(place)
    # What is marked at P behind the move was marked at P - place ahead of it.
    return tuple([all_moved(need, (-place[0], -place[1])) for need in rule])


def power(rule, times):
    """The rule whose step is so many steps of the rule."""
    need_rule(rule)
    need_number(times, 0, MOST_STEPS)
    return power_needs(rule, times)
