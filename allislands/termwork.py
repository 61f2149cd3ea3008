"""What terms do: by their rules, and by their words."""

from math import comb

from allislands.errors import NoRow, TooGreat
from allislands.islands import all_common, all_joined, all_moved, let_places, need_island
from allislands.needs import MOST_NEEDS, bars_of, behind_needs, both_needs, either_needs
from allislands.needs import parting_need, power_needs
from allislands.rules import MOST_STEPS, need_rule
from allislands.terms import need_term, parts_of


def sets_of(many, places):
    """All sets of so many of the places, ascending if these are."""
    if many == 0:
        return [()]
    found = []
    for at in range(len(places) - many + 1):
        found += [places[at:at + 1] + rest for rest in sets_of(many - 1, places[at + 1:])]
    return found


def rank_needs(many, places):
    """The needs of a rank."""
    if comb(len(places), many) > MOST_NEEDS:
        raise TooGreat(MOST_NEEDS)
    return tuple(sets_of(many, places))


def again_needs(needs, times):
    """The needs of so many steps, which may be told to be too many."""
    if times > MOST_STEPS:
        raise TooGreat(MOST_STEPS)
    return power_needs(needs, times)


def put_together(word, made, needs):
    """The needs of what is there so far and of the next part."""
    if word == "most":
        return either_needs(made, needs)
    if word == "least":
        return both_needs(made, needs)
    return behind_needs(made, needs)


def needs_of_term(term):
    """The needs of a term that is one."""
    word = term[0]
    if word == "at":
        return ((term[1],),)
    if word == "rank":
        return rank_needs(term[1], term[2])
    parts = parts_of(term)
    made = needs_of_term(parts[0])
    if word == "turned":
        return bars_of(made)
    if word == "again":
        return again_needs(made, term[2])
    for part in parts[1:]:
        made = put_together(word, made, needs_of_term(part))
    return made


def term_rule(term):
    """The rule that does the same as a term."""
    need_term(term)
    return needs_of_term(term)


def term_of_needs(needs):
    """The term that tells some needs, place by place."""
    return ("most", tuple([("least", tuple([("at", place) for place in need])) for need in needs]))


def plain_term(rule):
    """The term that tells the needs of a rule, place by place."""
    need_rule(rule)
    return term_of_needs(rule)


def need_few_times(term):
    """Refuses each "again" that is done too many times."""
    if term[0] == "again" and term[2] > MOST_STEPS:
        raise TooGreat(MOST_STEPS)
    for part in parts_of(term):
        need_few_times(part)


def turned_way(place):
    """The way back."""
    return (-place[0], -place[1])


def ranked(least, places, told):
    """The places P for which at least so many of P + Q are told, Q in places."""
    counts = {}
    for place in places:
        for here in all_moved(told, turned_way(place)):
            counts[here] = counts.get(here, 0) + 1
    return let_places(tuple(sorted([here for here in counts if counts[here] >= least])))


def way_between(told, behind):
    """The place by which all of told is moved to give behind, None if there is none."""
    if len(told) != len(behind):
        return None
    if len(told) == 0:
        return (0, 0)
    way = (behind[0][0] - told[0][0], behind[0][1] - told[0][1])
    return way if all_moved(told, way) == behind else None


def led_again(part, times, told, about):
    """The places behind so many times of a part."""
    for done in range(1, times + 1):
        behind = led(part, told, about)
        way = way_between(told, behind)
        if way is not None:
            # What is only moved by one step is moved likewise by each step that is left.
            left = times - done
            return all_moved(behind, (way[0] * left, way[1] * left))
        told = behind
    return told


def led_together(term, told, about):
    """The places behind all parts of a "most" or a "least"."""
    # Not marked behind a "most" is what is not marked behind each part, behind a "least" the
    # other way round.
    wide = (term[0] == "most") != about
    parts = parts_of(term)
    made = led(parts[0], told, about)
    for part in parts[1:]:
        behind = led(part, told, about)
        made = let_places(all_joined(made, behind)) if wide else all_common(made, behind)
    return made


def led(term, told, about):
    """The places to which a term leads the places told.

    These are the marked ones or, if about, those that are not marked while all others are.
    """
    word = term[0]
    if word == "at":
        return all_moved(told, turned_way(term[1]))
    if word == "rank":
        least = len(term[2]) + 1 - term[1] if about else term[1]
        return ranked(least, term[2], told)
    if word == "turned":
        return led(term[1], told, not about)
    if word == "again":
        return led_again(term[1], term[2], told, about)
    if word == "then":
        return led(term[2], led(term[1], told, about), about)
    return led_together(term, told, about)


def term_stepped(term, island):
    """The island to which a term leads an island, by its words."""
    need_term(term)
    need_island(island)
    need_few_times(term)
    return led(term, island, False)


def terms_alike(one, other):
    """Whether two terms do the same for all marks."""
    first = term_rule(one)
    return first == term_rule(other)


def terms_parted(one, other):
    """An island behind whose step just one of two terms marks (0, 0)."""
    first = term_rule(one)
    need = parting_need(first, term_rule(other))
    if need is None:
        raise NoRow()
    return need
