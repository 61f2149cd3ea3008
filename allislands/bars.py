"""Bars: the least sets of places that keep a mark away where none of them is marked."""

from allislands.checks import are_places
from allislands.errors import BadBars
from allislands.needs import MOST_NEAR, bars_of, fault_in_parts, is_need, least_needs
from allislands.rules import need_rule


def bars(rule):
    """The ascending tuple of all bars of a rule."""
    need_rule(rule)
    return bars_of(rule)


def turned_about(rule):
    """The rule whose needs are the bars of the rule."""
    need_rule(rule)
    return bars_of(rule)


def rule_from_bars(sets):
    """The rule of which the least ones of the sets are the bars."""
    fault = fault_in_parts(sets, is_need)
    if fault is not None:
        raise BadBars(fault)
    # A rule turned about twice is as it was: its needs are the bars of its bars.
    return bars_of(least_needs(sets))


def is_bar(rule, value):
    """Whether a value is a bar of the rule."""
    need_rule(rule)
    if not isinstance(value, tuple) or not are_places(value, MOST_NEAR):
        return False
    # A place of the value is needed only if some need has no other place of it.
    alone = {}
    for need in rule:
        met = [place for place in need if place in value]
        if len(met) == 0:
            return False
        if len(met) == 1:
            alone[met[0]] = True
    return len(alone) == len(value)
