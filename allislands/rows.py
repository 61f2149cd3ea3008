"""Rows: marks on a line, told by stretches, and the rules that lead them.

A stretch is a pair (L, R), both ends marked; the first L, and the last R, may be None: without end.
"""

from allislands.checks import are_two, is_ascending, is_number, is_tuple_of
from allislands.errors import BadRow, BadRule, TooGreat
from allislands.needs import MOST_IN_NEED, fault_in_rule, least_needs
from allislands.places import MOST_IN_PLACE, MOST_NUMBER, inner, made_plain, need_direction, need_great_number
from allislands.rules import need_rule

MOST_STRETCHES = 60


def is_row_need(value):
    """Whether a value is a row need."""
    if not is_tuple_of(value, 1, MOST_IN_NEED):
        return False
    for number in value:
        if not is_number(number, -MOST_IN_PLACE, MOST_IN_PLACE):
            return False
    return is_ascending(value)


def need_row_rule(rowrule):
    """A row rule, BadRule for anything else."""
    fault = fault_in_rule(rowrule, is_row_need)
    if fault is not None:
        raise BadRule(fault)
    return rowrule


def row_rule(rule, direction):
    """The row rule that a rule is for pictures that are the same all along the lines of a direction."""
    need_rule(rule)
    need_direction(direction)
    way = made_plain(direction)
    return least_needs([tuple(sorted({inner(way, place) for place in need})) for need in rule])


def span_of(rowrule):
    """The greatest less the least of all numbers in the needs of a row rule."""
    return max([need[-1] for need in rowrule]) - min([need[0] for need in rowrule])


def speeds_of_row_rule(rowrule):
    """The speeds (LEFT, RIGHT) of a row rule."""
    return (max([need[0] for need in rowrule]), max([-need[-1] for need in rowrule]))


def span(rowrule):
    """The greatest less the least of all numbers in the needs."""
    need_row_rule(rowrule)
    return span_of(rowrule)


def row_speeds(rowrule):
    """How far a step leads marks without end to the left, and to the right."""
    need_row_rule(rowrule)
    return speeds_of_row_rule(rowrule)


def dies_out(rowrule):
    """Whether all rows with finitely many marks die."""
    need_row_rule(rowrule)
    return sum(speeds_of_row_rule(rowrule)) < 0


def same_speeds(one, other):
    """Whether two row rules lead all rows that have one end alike."""
    need_row_rule(one)
    need_row_rule(other)
    return speeds_of_row_rule(one) == speeds_of_row_rule(other)


def is_end(value, may_be_none):
    """Whether a value is an end of a stretch."""
    return is_number(value, -MOST_NUMBER, MOST_NUMBER) or (may_be_none and value is None)


def is_row(value):
    """Whether a value is a row."""
    if not is_tuple_of(value, 0, MOST_STRETCHES):
        return False
    for at, stretch in enumerate(value):
        if not are_two(stretch):
            return False
        if not is_end(stretch[0], at == 0) or not is_end(stretch[1], at == len(value) - 1):
            return False
    return min(lengths(value), default=0) >= 0 and min(gaps(value), default=1) > 0


def need_row(row):
    """A row, BadRow for anything else."""
    if not is_row(row):
        raise BadRow(row)
    return row


def lengths(row):
    """R - L of each stretch that has both ends."""
    return [right - left for left, right in row if left is not None and right is not None]


def gaps(row):
    """How many places between each two stretches are not marked."""
    return [row[at][0] - row[at - 1][1] - 1 for at in range(1, len(row))]


def row_holds(row, number):
    """Whether a place is marked."""
    need_row(row)
    need_great_number(number)
    for left, right in row:
        if (left is None or left <= number) and (right is None or number <= right):
            return True
    return False


def grown_row(row, left, right):
    """A row with all first ends so much further left, all last ends so much further right."""
    return tuple([(None if first is None else first - left, None if last is None else last + right)
                  for first, last in row])


def common_to(rows, least):
    """The row of the places that at least so many of some rows mark, however many stretches it has."""
    many = 0
    changes = {}
    for row in rows:
        for left, right in row:
            if left is None:
                many += 1
            else:
                changes[left] = changes.get(left, 0) + 1
            if right is not None:
                changes[right + 1] = changes.get(right + 1, 0) - 1
    found = []
    begun, inside = None, many >= least
    for place in sorted(changes):
        many += changes[place]
        if inside and many < least:
            found.append((begun, place - 1))
        if not inside and many >= least:
            begun = place
        inside = many >= least
    if inside:
        found.append((begun, None))
    return tuple(found)


def led_row(rowrule, row):
    """The row behind a step, however many stretches it has."""
    # P + A is marked exactly if P lies in the row moved by A to the left.
    led = [common_to([grown_row(row, number, -number) for number in need], len(need)) for need in rowrule]
    return common_to(led, 1)


def let_stretches(row):
    """A row, TooGreat(60) if it has more stretches than that."""
    if len(row) > MOST_STRETCHES:
        raise TooGreat(MOST_STRETCHES)
    return row


def row_stepped(rowrule, row):
    """The row behind a step."""
    need_row_rule(rowrule)
    need_row(row)
    return let_stretches(led_row(rowrule, row))


def spare_of(rowrule, row):
    """How much longer than needed each stretch of a row is for it to be long, and each gap."""
    wide = span_of(rowrule)
    return ([length - wide for length in lengths(row)], [gap - wide - 1 for gap in gaps(row)])


def is_long_row(rowrule, row):
    """Whether a row is long for a row rule."""
    stretches, between = spare_of(rowrule, row)
    return min(stretches + between, default=0) >= 0


def is_long(rowrule, row):
    """Whether all stretches, and what lies between them, are long enough to be led one by one."""
    need_row_rule(rowrule)
    need_row(row)
    return is_long_row(rowrule, row)
