"""Levels: numbers at all places, led as marks are from each number on."""

from allislands.checks import are_two, is_ascending, is_number, is_tuple_of, need_number
from allislands.dooms import gone_with, need_doom, sum_of_speeds
from allislands.errors import BadParameter, BadPicture
from allislands.fanwork import fan_of_needs
from allislands.islands import MOST_PLACES, all_moved, let_places
from allislands.needs import bars_of
from allislands.places import MOST_NUMBER, is_place, need_great_number, need_place
from allislands.polygons import corners_of
from allislands.rules import MOST_STEPS, all_stepped, need_rule


def is_level(value):
    """Whether a value is a level as parameters are."""
    return is_number(value, -MOST_NUMBER, MOST_NUMBER)


def is_picture(value):
    """Whether a value is a picture of levels."""
    if not are_two(value) or not is_level(value[0]) or not is_tuple_of(value[1], 0, MOST_PLACES):
        return False
    for change in value[1]:
        if not are_two(change) or not is_place(change[0]) or not is_level(change[1]):
            return False
        if change[1] == value[0]:
            return False
    return is_ascending([place for place, level in value[1]])


def need_picture(value):
    """A picture of levels, BadPicture for anything else."""
    if not is_picture(value):
        raise BadPicture(value)
    return value


def levels_of(picture):
    """The levels of the places that have not that of the ground, by their places."""
    return {place: level for place, level in picture[1]}


def level_at(picture, place):
    """The level of a place."""
    need_picture(picture)
    need_place(place)
    return levels_of(picture).get(place, picture[0])


def is_flat(picture):
    """Whether all places have one level."""
    need_picture(picture)
    return len(picture[1]) == 0


def higher_places(picture, level):
    """The places of changes with at least this level."""
    return tuple([place for place, here in picture[1] if here >= level])


def lower_places(picture, level):
    """The places of changes with a lesser level than this."""
    return tuple([place for place, here in picture[1] if here < level])


def marked_from(picture, level):
    """The island of the places with at least this level, which is above the ground's."""
    need_picture(picture)
    need_great_number(level)
    if level <= picture[0]:
        raise BadParameter(level)
    return higher_places(picture, level)


def holes_below(picture, level):
    """The island of the places with a lesser level than this, which is not above the ground's."""
    need_picture(picture)
    need_great_number(level)
    if level > picture[0]:
        raise BadParameter(level)
    return lower_places(picture, level)


def made_picture(ground, pairs):
    """The picture of a ground and of some pairs (PLACE, LEVEL), unlike places, in any order; TooGreat(400)
    if it has more changes.
    """
    return (ground, let_places(tuple(sorted([pair for pair in pairs if pair[1] != ground]))))


def picture_turned(picture):
    """The picture with each level's other sign."""
    need_picture(picture)
    return (-picture[0], tuple([(place, -level) for place, level in picture[1]]))


def picture_cut(picture, low, high):
    """The picture with low instead of all lesser levels, high instead of all greater ones."""
    need_picture(picture)
    need_great_number(low)
    need_great_number(high)
    if high < low:
        raise BadParameter(high)
    pairs = [(place, min(max(level, low), high)) for place, level in picture[1]]
    return made_picture(min(max(picture[0], low), high), pairs)


def levels_together(one, other):
    """The pairs of the levels of two pictures, by the places at which one of them has a change."""
    ones, others = levels_of(one), levels_of(other)
    return {place: (ones.get(place, one[0]), others.get(place, other[0])) for place in list(ones) + list(others)}


def higher_of(one, other):
    """The picture of the greater levels of two."""
    need_picture(one)
    need_picture(other)
    both = levels_together(one, other)
    return made_picture(max(one[0], other[0]), [(place, max(both[place])) for place in both])


def lower_of(one, other):
    """The picture of the lesser levels of two."""
    need_picture(one)
    need_picture(other)
    both = levels_together(one, other)
    return made_picture(min(one[0], other[0]), [(place, min(both[place])) for place in both])


def unmarked_by(rule, holes):
    """The places that a step does not mark where all places but some holes are marked."""
    counts = {}
    for need in rule:
        met = {}
        for first, second in need:
            for place in all_moved(holes, (-first, -second)):
                met[place] = True
        for place in met:
            counts[place] = counts.get(place, 0) + 1
    return [place for place in counts if counts[place] == len(rule)]


def level_behind(rule, levels, ground, place):
    """The level of a place behind a step: the greatest, over the needs, of the least level there."""
    first, second = place
    return max([min([levels.get((first + across, second + up), ground) for across, up in need]) for need in rule])


def led_picture(rule, picture):
    """The picture behind a step."""
    ground, levels = picture[0], levels_of(picture)
    # What is above the ground behind a step is led as marks are, what is below it as holes are.
    above = all_stepped(rule, higher_places(picture, ground + 1))
    below = unmarked_by(rule, lower_places(picture, ground))
    places = let_places(list(above) + below)
    return made_picture(ground, [(place, level_behind(rule, levels, ground, place)) for place in places])


def level_stepped(rule, picture):
    """The picture behind a step."""
    need_rule(rule)
    need_picture(picture)
    return led_picture(rule, picture)


def level_steps(rule, picture, times):
    """The picture behind so many steps."""
    need_rule(rule)
    need_picture(picture)
    need_number(times, 0, MOST_STEPS)
    for _ in range(times):
        picture = led_picture(rule, picture)
    return picture


def cleans(rule):
    """Whether some number of steps makes each picture flat."""
    need_rule(rule)
    fans = [fan_of_needs(needs) for needs in (bars_of(rule), rule)]
    # Both fans are asked ahead of the answer, since each of them may be refused.
    return len(corners_of(fans[0])) == 0 and len(corners_of(fans[1])) == 0


def flat_by(rule, picture, doom, counter):
    """A number of steps behind which a picture is surely flat, by dooms of the rule and of it turned about."""
    need_rule(rule)
    need_picture(picture)
    need_doom(rule, doom)
    about = bars_of(rule)
    need_doom(about, counter)
    # All islands from a level lie in the greatest one of them, and so do all holes.
    marked, holes = higher_places(picture, picture[0] + 1), lower_places(picture, picture[0])
    steps = gone_with(marked, doom, sum_of_speeds(rule, doom))
    return max(steps, gone_with(holes, counter, sum_of_speeds(about, counter)))
