"""Rows behind any number of steps: many steps at once, as long as all stretches are long."""

from allislands.checks import need_number
from allislands.errors import NoRow, TooGreat
from allislands.places import MOST_NUMBER
from allislands.rows import grown_row, is_long_row, led_row, let_stretches, need_row, need_row_rule
from allislands.rows import spare_of, speeds_of_row_rule

MOST_ONE_BY_ONE = 400


def way_to(row, behind):
    """The integer by which all of a row is moved to give another one, None if there is none."""
    told = [end for stretch in row for end in stretch if end is not None]
    found = [end for stretch in behind for end in stretch if end is not None]
    way = found[0] - told[0] if len(told) > 0 and len(found) > 0 else 0
    return way if grown_row(row, -way, way) == behind else None


def steps_from_long(rowrule, row, most):
    """How many steps, at most so many, are led from long rows; the row is long, and they change it."""
    stretches, between = spare_of(rowrule, row)
    grows = sum(speeds_of_row_rule(rowrule))
    # Stretches that grow take what lies between them, those that shrink lose their own places.
    spare = between if grows > 0 else stretches
    if len(spare) == 0:
        return most
    return min(most, min(spare) // abs(grows) + 1)


def led_on(rowrule, row, most, lone):
    """The row behind the next steps, at most so many, how many they are, and how many have been done one
    by one, `lone` of them ahead.
    """
    behind = led_row(rowrule, row)
    way = way_to(row, behind)
    if way is not None:
        return (grown_row(row, -way * most, way * most), most, lone)
    if is_long_row(rowrule, row):
        done = steps_from_long(rowrule, row, most)
        left, right = speeds_of_row_rule(rowrule)
        return (grown_row(row, left * done, right * done), done, lone)
    if lone == MOST_ONE_BY_ONE:
        raise TooGreat(MOST_ONE_BY_ONE)
    return (let_stretches(behind), 1, lone + 1)


def run(rowrule, row, times):
    """The row behind so many steps."""
    need_row_rule(rowrule)
    need_row(row)
    need_number(times, 0, MOST_NUMBER)
    lone = 0
    while times > 0:
        row, done, lone = led_on(rowrule, row, times, lone)
        times -= done
    return row


def row_last(rowrule, wide):
    """The least number of steps behind which no row within so many neighbouring places has a mark."""
    need_row_rule(rowrule)
    need_number(wide, 1, MOST_NUMBER)
    if sum(speeds_of_row_rule(rowrule)) >= 0:
        raise NoRow()
    row = ((0, wide - 1),)
    steps, lone = 0, 0
    while len(row) > 0:
        # A stretch loses a place behind each step as long as it is long, so `wide` bounds no step.
        row, done, lone = led_on(rowrule, row, wide, lone)
        steps += done
    return steps
