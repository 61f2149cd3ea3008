"""Many rules, done in any order: words of rules, and what holds for all orders."""

from allislands.checks import is_number, is_tuple_of, need_number
from allislands.dooms import gone_with, is_doom_of, sum_of_speeds
from allislands.errors import BadParameter, BadRules, NoRow
from allislands.fanwork import fan_of_needs, linear_fan, summed
from allislands.islands import let_places, need_island
from allislands.needs import behind_needs
from allislands.places import need_direction
from allislands.polygons import corners_of
from allislands.rules import all_stepped, is_rule
from allislands.speeds import speed_of

MOST_RULES = 6
MOST_IN_WORD = 60
MOST_ROUNDS = 10 ** 30
MOST_LENGTH = 4
MOST_IN_DOOM = 4
NOTHING_DONE = (((0, 0),),)


def need_rules(rules):
    """A tuple of 1 to 6 rules, BadRules for anything else."""
    if not is_tuple_of(rules, 1, MOST_RULES):
        raise BadRules(())
    for at, rule in enumerate(rules):
        if not is_rule(rule):
            raise BadRules((at,))
    return rules


def need_word(rules, word):
    """A word of some rules, BadParameter for anything else."""
    if not is_tuple_of(word, 0, MOST_IN_WORD):
        raise BadParameter(word)
    for number in word:
        if not is_number(number, 0, len(rules) - 1):
            raise BadParameter(word)
    return word


def word_stepped(rules, word, island):
    """The island behind the rules of a word."""
    need_rules(rules)
    need_word(rules, word)
    need_island(island)
    for number in word:
        island = let_places(all_stepped(rules[number], island))
    return island


def needs_of_word(rules, word):
    """The needs of a whole word."""
    made = NOTHING_DONE
    for number in word:
        made = behind_needs(made, rules[number])
    return made


def word_rule(rules, word):
    """The rule of a whole word."""
    need_rules(rules)
    need_word(rules, word)
    return needs_of_word(rules, word)


def words_alike(rules, one, other):
    """Whether two words do the same for all marks."""
    need_rules(rules)
    need_word(rules, one)
    need_word(rules, other)
    first = needs_of_word(rules, one)
    return first == needs_of_word(rules, other)


def word_speed(rules, word, direction, rounds):
    """The speed of a word that is done so many times."""
    need_rules(rules)
    need_word(rules, word)
    need_direction(direction)
    need_number(rounds, 0, MOST_ROUNDS)
    return rounds * sum([speed_of(rules[number], direction) for number in word])


def fan_at(rules, number, known):
    """The fan of a rule, which `known` keeps once it is made."""
    if number not in known:
        known[number] = fan_of_needs(rules[number])
    return known[number]


def fan_of_word(rules, word):
    """The fan of a whole word."""
    known = {}
    made = linear_fan((0, 0))
    for number in word:
        made = summed(made, fan_at(rules, number, known))
    return made


def word_fan(rules, word):
    """The fan of the speeds of a whole word."""
    need_rules(rules)
    need_word(rules, word)
    return fan_of_word(rules, word)


def word_core(rules, word):
    """The corners of the core of a whole word."""
    need_rules(rules)
    need_word(rules, word)
    return corners_of(fan_of_word(rules, word))


def is_doom_of_all(rules, value):
    """Whether a value is a doom of each of some rules."""
    for rule in rules:
        if not is_doom_of(rule, value):
            return False
    return True


def is_common_doom(rules, value):
    """Whether a value is a common doom of the rules."""
    need_rules(rules)
    return is_doom_of_all(rules, value)


def are_slow(speeds, directions):
    """Whether the speeds of each rule, told by direction, have a sum below 0."""
    for told in speeds:
        if sum([told[direction] for direction in directions]) >= 0:
            return False
    return True


def common_doom(rules, size):
    """The least common doom of the rules with numbers up to a size, its directions ascending."""
    need_rules(rules)
    need_number(size, 1, MOST_IN_DOOM)
    numbers = range(-size, size + 1)
    ways = [(across, up) for across in numbers for up in numbers if (across, up) != (0, 0)]
    speeds = [{way: speed_of(rule, way) for way in ways} for rule in rules]
    for at, one in enumerate(ways):
        for other in ways[at + 1:]:
            # The first two tell the whole: what is left of (0, 0) is a third one, or nothing.
            third = (-one[0] - other[0], -one[1] - other[1])
            if third == (0, 0) and are_slow(speeds, (one, other)):
                return (one, other)
            if third > other and third in speeds[0] and are_slow(speeds, (one, other, third)):
                return (one, other, third)
    raise NoRow()


def gone_in_any(rules, island, doom):
    """The number of steps, each by any of the rules, behind which a common doom leaves no mark."""
    need_rules(rules)
    need_island(island)
    if not is_doom_of_all(rules, doom):
        raise BadParameter(doom)
    return gone_with(island, doom, max([sum_of_speeds(rule, doom) for rule in rules]))


def is_core_left(fan, cores):
    """Whether the core of a fan is not empty; `cores` keeps the answers."""
    if fan not in cores:
        cores[fan] = len(corners_of(fan)) > 0
    return cores[fan]


def all_words(many, most):
    """All words of 1 to `most` of so many rules, as Python orders them."""
    found = []
    for number in range(many):
        found.append((number,))
        if most > 1:
            found += [(number,) + rest for rest in all_words(many, most - 1)]
    return found


def living_word(rules, length):
    """The least word of 1 to so many rules whose core is not empty."""
    need_rules(rules)
    need_number(length, 1, MOST_LENGTH)
    fans, known, cores = {(): linear_fan((0, 0))}, {}, {}
    for word in all_words(len(rules), length):
        # What a word begins with has been taken ahead of it.
        fans[word] = summed(fans[word[:-1]], fan_at(rules, word[-1], known))
        if is_core_left(fans[word], cores):
            return word
    raise NoRow()
