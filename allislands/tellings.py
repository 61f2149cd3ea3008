"""One rule in four tellings: by needs, by bars, by a term, by a table."""

from allislands.checks import are_places, are_two, is_number, is_tuple_of
from allislands.errors import BadParameter, TooGreat
from allislands.needs import MOST_NEAR, bars_of, has_one_of, least_masks, masks_of, needs_of
from allislands.rules import is_rule, need_rule
from allislands.terms import is_term
from allislands.termwork import needs_of_term, term_of_needs

TELLINGS = ("needs", "bars", "term", "table")
MOST_IN_TABLE = 6


def need_telling(value):
    """A word that names a telling, BadParameter for anything else."""
    if value not in TELLINGS:
        raise BadParameter(value)
    return value


def is_bits(value, many):
    """Whether a value has 0 or 1 for each set of so many places, 0 for none of them, 1 for all."""
    if not is_tuple_of(value, 1 << many, 1 << many):
        return False
    for bit in value:
        if not is_number(bit, 0, 1):
            return False
    return value[0] == 0 and value[-1] == 1


def rises_by(bits, at):
    """Whether no bit falls, and some bit rises, where the place with this number comes to a set."""
    pairs = [(bits[mask], bits[mask | (1 << at)]) for mask in range(len(bits)) if mask & (1 << at) == 0]
    return (1, 0) not in pairs and (0, 1) in pairs


def is_table(value):
    """Whether a value is a table that tells a rule."""
    if not are_two(value) or not is_tuple_of(value[0], 1, MOST_IN_TABLE) or not are_places(value[0], MOST_NEAR):
        return False
    many = len(value[0])
    return is_bits(value[1], many) and False not in [rises_by(value[1], at) for at in range(many)]


def is_told(telling, value):
    """Whether a value is one of a telling that is one."""
    if telling == "term":
        return is_term(value)
    if telling == "table":
        return is_table(value)
    # All bars of a rule look as the needs of one do, those of the rule turned about.
    return is_rule(value)


def needs_told(telling, value):
    """The needs of the rule that a value of a telling tells."""
    if telling == "bars":
        return bars_of(value)
    if telling == "term":
        return needs_of_term(value)
    if telling == "table":
        places, bits = value
        masks = [mask for mask, bit in enumerate(bits) if bit == 1]
        return needs_of(least_masks(masks), {place: at for at, place in enumerate(places)})
    return value


def table_of(needs):
    """The table of some needs."""
    places = tuple(sorted({place for need in needs for place in need}))
    if len(places) > MOST_IN_TABLE:
        raise TooGreat(MOST_IN_TABLE)
    masks = masks_of(needs, {place: at for at, place in enumerate(places)})
    return (places, tuple([1 if has_one_of(mask, masks) else 0 for mask in range(1 << len(places))]))


def told_as(needs, telling):
    """The value of a telling for some needs."""
    if telling == "bars":
        return bars_of(needs)
    if telling == "term":
        return term_of_needs(needs)
    if telling == "table":
        return table_of(needs)
    return needs


def is_telling(telling, value):
    """Whether a value is one of the telling."""
    need_telling(telling)
    return is_told(telling, value)


def need_told(telling, value):
    """A value of a telling that is one, BadParameter for anything else."""
    if not is_told(telling, value):
        raise BadParameter(value)
    return value


def telling_rule(telling, value):
    """The rule that a value of the telling tells."""
    need_telling(telling)
    need_told(telling, value)
    return needs_told(telling, value)


def telling_of(rule, telling):
    """The value of the telling for a rule."""
    need_rule(rule)
    need_telling(telling)
    return told_as(rule, telling)


def retold(telling, value, into):
    """The value of another telling for the rule that a value tells."""
    need_telling(telling)
    need_told(telling, value)
    need_telling(into)
    return told_as(needs_told(telling, value), into)
