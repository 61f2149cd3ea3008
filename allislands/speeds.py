"""Speeds: how fast half planes move."""

from allislands.places import inner, need_direction, need_great_number
from allislands.rules import need_rule
from allislands.terms import need_term, parts_of


def speed_of(needs, direction):
    """The greatest, over the needs, of the least of -<U, A>."""
    return max([min([-inner(direction, place) for place in need]) for need in needs])


def speed(rule, direction):
    """The speed of a rule for the direction."""
    need_rule(rule)
    need_direction(direction)
    return speed_of(rule, direction)


def rank_speed(many, places, direction):
    """The speed of a rank."""
    found = sorted([-inner(direction, place) for place in places], reverse=True)
    return found[many - 1]


def speed_by_words(term, direction):
    """The speed of a term that is one."""
    word = term[0]
    if word == "at":
        return -inner(direction, term[1])
    if word == "rank":
        return rank_speed(term[1], term[2], direction)
    if word == "turned":
        return -speed_by_words(term[1], (-direction[0], -direction[1]))
    found = [speed_by_words(part, direction) for part in parts_of(term)]
    if word == "again":
        return term[2] * found[0]
    if word == "most":
        return max(found)
    if word == "least":
        return min(found)
    return sum(found)


def term_speed(term, direction):
    """The speed of a term for the direction, without its rule."""
    need_term(term)
    need_direction(direction)
    return speed_by_words(term, direction)


def half_stepped(rule, direction, number):
    """The number of the half plane to which a step leads (direction, number)."""
    need_rule(rule)
    need_direction(direction)
    need_great_number(number)
    return number + speed_of(rule, direction)
