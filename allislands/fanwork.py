"""Fans from within: nothing here asks how great the numbers of a fan are.

A fan is a sequence of pairs (U, S) in the order of the directions U, the four axes among them; in
the cone between two neighbours the function is <U, F> with one pair F, its form.
"""

from allislands.errors import TooGreat
from allislands.places import crossed, inner, made_plain, put_in_order
from allislands.speeds import rank_speed
from allislands.terms import parts_of

AXES = ((1, 0), (0, 1), (-1, 0), (0, -1))
MOST_IN_FAN = 60


def neighbours(things):
    """The pairs of each thing and the next one, the first one coming behind the last one."""
    return [(thing, things[(at + 1) % len(things)]) for at, thing in enumerate(things)]


def directions_of(fan):
    """The directions of a fan, in their order."""
    return [direction for direction, number in fan]


def numbers_of(fan):
    """The numbers of a fan, in the order of its directions."""
    return [number for direction, number in fan]


def is_bend(before, here, behind):
    """Whether the forms on both sides of a direction are unlike, all three as pairs (U, S)."""
    return (before[1] * crossed(here[0], behind[0]) + here[1] * crossed(behind[0], before[0])
            + behind[1] * crossed(before[0], here[0])) != 0


def only_bends(pairs):
    """The tuple of those of some pairs (U, S) whose directions are axes or bends."""
    kept = []
    for at, pair in enumerate(pairs):
        if pair[0] in AXES or is_bend(pairs[at - 1], pair, pairs[(at + 1) % len(pairs)]):
            kept.append(pair)
    return tuple(kept)


def made_fan(pairs):
    """The fan of a function that is linear between the directions of some pairs (U, S), TooGreat(60)
    if it has more directions.
    """
    fan = only_bends(pairs)
    if len(fan) > MOST_IN_FAN:
        raise TooGreat(MOST_IN_FAN)
    return fan


def broken_form(one, other):
    """The integers (N, M, K) that tell the form (N / K, M / K) of the cone between two pairs (U, S)."""
    first, here = one
    second, there = other
    return (here * second[1] - there * first[1], there * first[0] - here * second[0], crossed(first, second))


def is_whole_cone(one, other):
    """Whether the form of the cone between two pairs (U, S) has whole numbers."""
    first, second, parts = broken_form(one, other)
    return first % parts == 0 and second % parts == 0


def whole_forms(fan):
    """The forms of a whole fan, each that of the cone behind a direction, in turn."""
    found = []
    for one, other in neighbours(fan):
        first, second, parts = broken_form(one, other)
        found.append((first // parts, second // parts))
    return found


def forms_behind(fan, directions):
    """The form of a whole fan behind each of some directions in their order, its own among them."""
    own = directions_of(fan)
    forms = whole_forms(fan)
    found = []
    # The first direction of each fan is (1, 0).
    at = 0
    for direction in directions:
        if at + 1 < len(own) and own[at + 1] == direction:
            at += 1
        found.append(forms[at])
    return found


def joint_directions(one, other):
    """The directions of either of two fans, in their order."""
    return put_in_order(directions_of(one) + directions_of(other))


def summed(one, other):
    """The fan of the sum of two whole fans."""
    directions = joint_directions(one, other)
    ones, others = forms_behind(one, directions), forms_behind(other, directions)
    return made_fan([(direction, inner(direction, ones[at]) + inner(direction, others[at]))
                     for at, direction in enumerate(directions)])


def crossings(ends, first, second):
    """The direction between two neighbours at which two forms have one number, if they change there,
    in a list.
    """
    apart = (first[0] - second[0], first[1] - second[1])
    ahead, behind = inner(ends[0], apart), inner(ends[1], apart)
    if ahead * behind >= 0:
        return []
    across = ends[0][0] * abs(behind) + ends[1][0] * abs(ahead)
    up = ends[0][1] * abs(behind) + ends[1][1] * abs(ahead)
    return [made_plain((across, up))]


def chosen(one, other, greater):
    """The fan of the greater one, or of the lesser one, of two whole fans."""
    directions = joint_directions(one, other)
    ones, others = forms_behind(one, directions), forms_behind(other, directions)
    pairs = []
    for at, ends in enumerate(neighbours(directions)):
        for direction in ends[:1] + tuple(crossings(ends, ones[at], others[at])):
            numbers = (inner(direction, ones[at]), inner(direction, others[at]))
            pairs.append((direction, max(numbers) if greater else min(numbers)))
    return made_fan(pairs)


def turned_fan(fan):
    """The fan of less the value at -U."""
    numbers = {direction: number for direction, number in fan}
    about = put_in_order([(-first, -second) for first, second in directions_of(fan)])
    return tuple([(direction, -numbers[(-direction[0], -direction[1])]) for direction in about])


def fan_often(fan, times):
    """The fan of so many times the value."""
    return made_fan([(direction, number * times) for direction, number in fan])


def linear_fan(form):
    """The fan of the linear function <U, F>."""
    return tuple([(direction, inner(direction, form)) for direction in AXES])


def fan_of_place(place):
    """The fan of -<U, A>."""
    return linear_fan((-place[0], -place[1]))


def fan_of_need(need):
    """The fan of the least of -<U, A>, A in a need."""
    made = fan_of_place(need[0])
    for place in need[1:]:
        made = chosen(made, fan_of_place(place), False)
    return made


def fan_of_needs(needs):
    """The fan of the speeds of a rule."""
    made = fan_of_need(needs[0])
    for need in needs[1:]:
        made = chosen(made, fan_of_need(need), True)
    return made


def fan_of_rank(many, places):
    """The fan of a rank: between the directions at which two places change parts it is linear."""
    found = list(AXES)
    for at, place in enumerate(places):
        for other in places[:at]:
            across, up = made_plain((place[1] - other[1], other[0] - place[0]))
            found += [(across, up), (-across, -up)]
    return made_fan([(direction, rank_speed(many, places, direction)) for direction in put_in_order(found)])


def fans_together(word, made, fan):
    """The fan of what is there so far and of the next part."""
    if word == "then":
        return summed(made, fan)
    return chosen(made, fan, word == "most")


def fan_by_words(term):
    """The fan of the speeds of a term."""
    word = term[0]
    if word == "at":
        return fan_of_place(term[1])
    if word == "rank":
        return fan_of_rank(term[1], term[2])
    parts = parts_of(term)
    made = fan_by_words(parts[0])
    if word == "turned":
        return turned_fan(made)
    if word == "again":
        return fan_often(made, term[2])
    for part in parts[1:]:
        made = fans_together(word, made, fan_by_words(part))
    return made
