"""Needs put together, from within: nothing here asks how great a need's places are.

Sets of places are told by numbers, one bit for each place. A number that has all bits of another
one is not less than it, so the least sets are found by going through the numbers as they ascend.
"""

from allislands.checks import are_places, is_pair, is_tuple_of
from allislands.errors import TooGreat
from allislands.islands import all_moved

MOST_NEEDS = 60
MOST_IN_NEED = 12
MOST_NEAR = 20


def is_near(value):
    """Whether a value is a place as needs of parameters have it."""
    return is_pair(value, MOST_NEAR)


def is_need(value):
    """Whether a value is a need as parameters have it."""
    return is_tuple_of(value, 1, MOST_IN_NEED) and are_places(value, MOST_NEAR)


def fault_in_parts(value, is_part):
    """Where a value is no tuple of 1 to 60 such parts, None if it is one."""
    if not is_tuple_of(value, 1, MOST_NEEDS):
        return ()
    for at, part in enumerate(value):
        if not is_part(part):
            return (at,)
    return None


def fault_in_rule(value, is_part):
    """Where a value is not as a rule with such needs, None if it is one."""
    fault = fault_in_parts(value, is_part)
    if fault is not None:
        return fault
    for at in range(1, len(value)):
        if value[at - 1] >= value[at]:
            return (at,)
    masks = masks_of(value, {})
    for at, mask in enumerate(masks):
        if has_one_of(mask, masks[:at] + masks[at + 1:]):
            return (at,)
    return None


def mask_of(need, bits):
    """The number of a set of places; `bits` gives each place that is new to it the next bit."""
    mask = 0
    for place in need:
        mask |= 1 << bits.setdefault(place, len(bits))
    return mask


def masks_of(needs, bits):
    """The numbers of some sets of places, in their order."""
    return [mask_of(need, bits) for need in needs]


def need_of(mask, bits):
    """The ascending tuple of the places whose bits a number has."""
    figures = f"{mask:b}"
    return tuple(sorted([place for place, figure in zip(bits, figures[::-1]) if figure == "1"]))


def needs_of(masks, bits):
    """The ascending tuple of the sets that some numbers tell."""
    return tuple(sorted([need_of(mask, bits) for mask in masks]))


def has_one_of(mask, others):
    """Whether a number has all bits of one of the others."""
    for other in others:
        if mask & other == other:
            return True
    return False


def least_masks(masks):
    """The numbers of the least sets, TooGreat(60) if they are more."""
    kept = []
    for mask in sorted(set(masks)):
        if not has_one_of(mask, kept):
            kept.append(mask)
        if len(kept) > MOST_NEEDS:
            raise TooGreat(MOST_NEEDS)
    return kept


def joined_masks(one, other):
    """The numbers of the least sets that are a set of one joined with a set of other."""
    return least_masks([first | second for first in one for second in other])


def least_needs(needs):
    """The least ones of some needs."""
    bits = {}
    return needs_of(least_masks(masks_of(needs, bits)), bits)


def either_needs(one, other):
    """The needs of what one of two rules marks."""
    return least_needs(one + other)


def both_needs(one, other):
    """The needs of what both of two rules mark."""
    bits = {}
    return needs_of(joined_masks(masks_of(one, bits), masks_of(other, bits)), bits)


def behind_needs(one, other):
    """The needs of a step of one and then a step of other."""
    bits = {}
    moved = {}
    kept = []
    for need in other:
        joint = [0]
        for place in need:
            if place not in moved:
                moved[place] = masks_of([all_moved(each, place) for each in one], bits)
            joint = joined_masks(joint, moved[place])
        kept = least_masks(kept + joint)
    return needs_of(kept, bits)


def power_needs(rule, times):
    """The needs of so many steps of a rule."""
    made = (((0, 0),),)
    for _ in range(times):
        made = behind_needs(made, rule)
    return made


def bars_of(needs):
    """All bars of some needs, found need by need."""
    bits = {}
    kept = [0]
    for need in needs:
        kept = joined_masks(kept, [mask_of((place,), bits) for place in need])
    return needs_of(kept, bits)


def lone_needs(one, other):
    """The needs of one that have not all places of any need of other."""
    bits = {}
    others = masks_of(other, bits)
    return [need for need in one if not has_one_of(mask_of(need, bits), others)]


def parting_need(one, other):
    """The least of all needs of one of two rules that have not all places of any need of the
    other one, None if the rules are the same.
    """
    return min(lone_needs(one, other) + lone_needs(other, one), default=None)
