"""[40], [41] Rows and the rules that lead them; of [42] `same_speeds`."""

import unittest

from allislands.errors import BadDirection, BadParameter, BadRow, BadRule, TooGreat
from allislands.rows import (dies_out, is_long, need_row, need_row_rule, row_holds, row_rule, row_speeds, row_stepped,
                             same_speeds, span)
from allislands.speeds import speed
from tests.tools import (LEFT, MOST, ODD, STAY, TWO, Case, all_ways, drawings, drawn_row, drawn_row_rule, drawn_rule,
                         least, outcome, plain, row_marks, row_step)

BIG = 10 ** 9
TWELVE = tuple(range(12))
SIXTY = tuple((k,) for k in range(60))
# Marks what most of three neighbours are.
MIDDLE = ((-1, 0), (-1, 1), (0, 1))
GROWS = ((0,), (1,))
SHRINKS = ((0, 1),)
NO_NEEDS = ODD + ((), TWELVE + (12,), (1, 0), (0, 0), [0], (BIG + 1,), (-BIG - 1,), (0, True), (False,), (0, None),
                  (0, 1.0), ((0,),), (0, "1"))
FULL = ((None, None),)
NO_ROWS = ODD + ([(0, 1)], ([0, 1],), ((0,),), ((0, 1, 2),), ((1, 0),), ((0, 1), (2, 3)), ((0, 1), (1, 3)),
                 ((0, 1), (5, 4)), ((1, 0), (5, 6)),
                 ((0, 1), (2, 3), (9, 9)), ((0, 1), (9, 9), (10, 12)),
                 ((4, 5), (0, 1)), ((0, 1), (0, 1)), ((0, MOST + 1),), ((-MOST - 1, 0),), ((0, True),), ((False, 1),),
                 ((0, 1.0),), ((0, None), (2, 3)), ((0, 1), (None, 3)), ((None, None), (2, 3)), ((0, 1), (None, None)),
                 ((None, None), (None, None)), ((None, 1), (3, None), (5, 6)), (None,), ((None,),), ((0, 1), None),
                 ((None, 1), (2, None)), ((0, 1), ("3", 4)), ((None, 3), (3, None)))


class RowRules(Case):

    def test_row_rules(self):
        for rule in (MIDDLE, GROWS, SHRINKS, (TWELVE,), ((-BIG, BIG),), SIXTY, ((0,),), ((0, 1), (0, 2))):
            self.assertEqual(need_row_rule(rule), rule)
            self.assertEqual(need_row_rule(rowrule=rule), rule)

    def test_it_is_no_tuple_of_1_to_60_things(self):
        for rule in (None, (), [(0,)], "rule", {(0,): 1}, SIXTY + ((60,),), (None,) * 61, 7, True):
            self.refused(BadRule(()), need_row_rule, rule)

    def test_a_thing_is_no_need(self):
        for need in NO_NEEDS:
            self.refused(BadRule((0,)), need_row_rule, (need,))
            self.refused(BadRule((1,)), need_row_rule, ((0,), need, None))
            # Ahead of needs that do not ascend, or that have all numbers of others.
            self.refused(BadRule((2,)), need_row_rule, ((1,), (0,), need))
            self.refused(BadRule((2,)), need_row_rule, ((0, 1), (0, 1, 2), need))

    def test_needs_that_do_not_ascend(self):
        self.refused(BadRule((1,)), need_row_rule, ((1,), (0,)))
        self.refused(BadRule((1,)), need_row_rule, ((0,), (0,)))
        self.refused(BadRule((2,)), need_row_rule, ((0,), (3,), (2,), (1,)))
        # Ahead of those that have all numbers of others.
        self.refused(BadRule((3,)), need_row_rule, ((0,), (0, 1), (3,), (2,)))

    def test_needs_within_others(self):
        self.refused(BadRule((1,)), need_row_rule, ((0,), (0, 1)))
        self.refused(BadRule((0,)), need_row_rule, ((0, 1), (1,)))
        self.refused(BadRule((1,)), need_row_rule, ((-5,), (0, 1, 2), (0, 2), (7,)))
        self.refused(BadRule((2,)), need_row_rule, ((0, 1), (0, 2), (0, 2, 3)))

    def test_every_parameter_is_checked_so(self):
        for rule, place in ((None, ()), (((1,), (0,)), (1,)), ((TWELVE + (12,),), (0,)), (((0,), (0, 1)), (1,))):
            for call, rest in ((span, ()), (row_speeds, ()), (dies_out, ()), (same_speeds, (None,)),
                               (row_stepped, (None,)), (is_long, (None,))):
                self.refused(BadRule(place), call, rule, *rest)
            self.refused(BadRule(place), same_speeds, GROWS, rule)


class FromRules(Case):

    def test_examples(self):
        self.assertEqual(row_rule(LEFT, (1, 0)), GROWS)
        self.assertEqual(row_rule(rule=LEFT, direction=(0, 7)), ((0,),))
        self.assertEqual(row_rule(TWO, (1, 0)), ((0,),))
        self.assertEqual(row_rule(TWO, (1, 1)), ((1,),))
        self.assertEqual(row_rule(TWO, (1, -1)), MIDDLE)

    def test_directions_that_are_not_plain(self):
        for way in ((3, 0), (10 ** 6, 0)):
            self.assertEqual(row_rule(LEFT, way), GROWS)
        self.assertEqual(row_rule(LEFT, (-4, 2)), ((-2,), (0,)))
        self.assertEqual(row_rule((((-20, 20), (20, -20)),), (10 ** 6, 10 ** 6 - 1)), ((-20, 20),))

    def test_sums_that_are_alike_or_within_others(self):
        # Both places of a need on one line, two needs with the same sums, one within another.
        self.assertEqual(row_rule((((0, 0), (0, 5)),), (1, 0)), ((0,),))
        self.assertEqual(row_rule((((0, 0), (1, 0)), ((0, 1), (1, 2))), (1, 0)), ((0, 1),))
        self.assertEqual(row_rule((((0, 0), (1, 0)), ((1, 1),)), (1, 0)), ((1,),))

    def test_drawn_ones(self):
        for draw in drawings(120, 400):
            rule, way = drawn_rule(draw, 6, 5, 3), (draw.randint(-9, 9), draw.randint(1, 9))
            u = plain(way)
            made = row_rule(rule, way)
            self.assertEqual(made, least([tuple(sorted({u[0] * x + u[1] * y for x, y in need})) for need in rule]))
            self.assertEqual(need_row_rule(made), made)

    def test_it_is_the_rule_along_lines(self):
        for draw in drawings(60, 401):
            rule, u, row = drawn_rule(draw, 3, 3, 1), draw.choice(all_ways(2)), drawn_row(draw)
            marks = row_marks(row_stepped(row_rule(rule, u), row), range(-9, 40))
            for x, y in ((0, 3), (5, -2), (7, 7), (-1, 0)):
                at = u[0] * x + u[1] * y
                wanted = any(all(row_holds(row, at + u[0] * a + u[1] * b) for a, b in need) for need in rule)
                if -9 <= at < 40:
                    self.assertIs(at in marks, wanted)

    def test_speeds_are_those_of_the_rule(self):
        for draw in drawings(80, 402):
            rule, u = drawn_rule(draw, 4, 4, 3), draw.choice(all_ways(3))
            left, right = row_speeds(row_rule(rule, u))
            self.assertEqual((left, right), (speed(rule, (-u[0], -u[1])), speed(rule, u)))

    def test_parameters(self):
        self.refused(BadRule(()), row_rule, None, None)
        for way in ((0, 0), (10 ** 6 + 1, 0), (True, 0), [1, 0], None):
            self.refused(BadDirection(way), row_rule, LEFT, way)


class Speeds(Case):

    def test_examples(self):
        self.assertEqual((span(MIDDLE), row_speeds(MIDDLE), dies_out(MIDDLE)), (2, (0, 0), False))
        self.assertEqual((span(GROWS), row_speeds(GROWS), dies_out(GROWS)), (1, (1, 0), False))
        self.assertEqual((span(rowrule=SHRINKS), row_speeds(rowrule=SHRINKS), dies_out(rowrule=SHRINKS)),
                         (1, (0, -1), True))
        self.assertEqual(span(((7,),)), 0)
        self.assertEqual(span(((-5,), (3, 4))), 9)
        self.assertEqual(span(((-BIG, BIG),)), 2 * BIG)
        self.assertEqual(row_speeds(((-BIG, BIG),)), (-BIG, -BIG))

    def test_sums_of_minus_1_0_and_1(self):
        for rule, total in ((((0, 1),), -1), (((-3, 3), (-2, -1), (0, 2)), 1), (((5,),), 0), (((0,), (1,)), 1),
                            (((-1, 0), (0, 1)), 0), (((0, 2), (1, 3)), -1), (((0, 1), (0, 2)), -1)):
            self.assertEqual(sum(row_speeds(rule)), total)
            self.assertIs(dies_out(rule), total < 0)

    def test_half_lines_place_by_place(self):
        for draw in drawings(150, 403):
            rule = drawn_row_rule(draw)
            left, right = row_speeds(rule)
            end = draw.randint(-9, 9)
            for n in range(-40, 41):
                self.assertIs(any(all(n + a <= end for a in need) for need in rule), n <= end + right)
                self.assertIs(any(all(n + a >= end for a in need) for need in rule), n >= end - left)
            self.assertEqual(row_stepped(rule, ((None, end),)), ((None, end + right),))
            self.assertEqual(row_stepped(rule, ((end, None),)), ((end - left, None),))

    def test_dying_out_by_steps(self):
        kinds = set()
        for draw in drawings(150, 404):
            rule = drawn_row_rule(draw, 3, 3, 3)
            row = ((0, 9),)
            for _ in range(60):
                row = outcome(row_stepped, rule, row)
                if row == () or row[0] is TooGreat:
                    break
            kinds.add((dies_out(rule), row == ()))
            if dies_out(rule):
                self.assertEqual(row, ())
        self.assertTrue({(True, True), (False, False)} <= kinds)
        # A stretch as long as the span stays, if the rule does not die out.
        self.assertNotIn((False, True), kinds)

    def test_same_speeds(self):
        self.assertIs(same_speeds(MIDDLE, ((0,),)), True)
        self.assertIs(same_speeds(one=GROWS, other=((0,), (1,))), True)
        self.assertIs(same_speeds(GROWS, ((-7, 4), (0,), (1,))), True)
        self.assertIs(same_speeds(GROWS, MIDDLE), False)
        self.assertIs(same_speeds(SHRINKS, ((-1, 0),)), False)
        self.assertIs(same_speeds(((0,), (1,)), ((0,), (2,))), False)
        same = 0
        for draw in drawings(200, 405):
            one, other = drawn_row_rule(draw, 3, 3, 1), drawn_row_rule(draw, 3, 3, 1)
            alike = all(row_stepped(one, row) == row_stepped(other, row) for row in (((None, 5),), ((5, None),)))
            self.assertIs(same_speeds(one, other), alike)
            same += alike
        self.assertTrue(20 < same < 180)


class Rows(Case):

    def test_rows(self):
        sixty = tuple((2 * k, 2 * k) for k in range(60))
        for row in ((), FULL, ((0, 0),), ((0, 0), (2, 2)), ((None, 5), (7, 9), (11, None)),
                    ((None, -MOST), (MOST, None)),
                    ((-MOST, MOST),), ((5, None),), ((None, 5),), sixty, ((None, -4),) + sixty[:58] + ((200, None),)):
            self.assertEqual(need_row(row), row)
            self.assertEqual(need_row(row=row), row)

    def test_what_is_none(self):
        for value in NO_ROWS:
            if value != ():
                self.refused(BadRow(value), need_row, value)
        for many in (61, 100):
            row = tuple((2 * k, 2 * k) for k in range(many))
            self.refused(BadRow(row), need_row, row)
            self.refused(BadRow(row), row_holds, row, None)
            self.refused(BadRow(row), row_stepped, GROWS, row)
            self.refused(BadRow(row), is_long, GROWS, row)
        self.refused(BadRow(((0, 1), (2, 3))), row_holds, ((0, 1), (2, 3)), 0)

    def test_row_holds(self):
        row = ((None, -5), (0, 0), (3, 7), (MOST, None))
        marks = [n for n in range(-9, 12) if row_holds(row, n)]
        self.assertEqual(marks, [-9, -8, -7, -6, -5, 0, 3, 4, 5, 6, 7])
        self.assertIs(row_holds(row, -MOST), True)
        self.assertIs(row_holds(row=row, number=MOST), True)
        self.assertIs(row_holds(row, MOST - 1), False)
        for n in (-MOST, 0, MOST):
            self.assertIs(row_holds(FULL, n), True)
            self.assertIs(row_holds((), n), False)
        for number in (MOST + 1, -MOST - 1, True, 1.0, "1", None):
            self.refused(BadParameter(number), row_holds, row, number)


class Steps(Case):

    def test_examples(self):
        self.assertEqual(row_stepped(MIDDLE, ((0, 0), (2, 2), (5, 9))), ((1, 1), (5, 9)))
        self.assertEqual(row_stepped(rowrule=MIDDLE, row=((1, 1), (5, 9))), ((5, 9),))
        self.assertEqual(row_stepped(SHRINKS, ((0, 0), (2, 3))), ((2, 2),))
        # Stretches that come to touch, or to lie upon one another, are one.
        self.assertEqual(row_stepped(GROWS, ((0, 0), (2, 3))), ((-1, 3),))
        self.assertEqual(row_stepped(((0,), (1,), (9,)), ((0, 0), (3, 3))), ((-9, -9), (-6, -6), (-1, 0), (2, 3)))
        for rule in (MIDDLE, GROWS, SHRINKS, ((-BIG, BIG),)):
            self.assertEqual(row_stepped(rule, ()), ())
            self.assertEqual(row_stepped(rule, FULL), FULL)

    def test_place_by_place(self):
        kinds = set()
        for draw in drawings(300, 406):
            rule, row = drawn_row_rule(draw), drawn_row(draw)
            made = row_stepped(rule, row)
            self.assertEqual(need_row(made), made)
            window = range(-40, 70)
            self.assertEqual(row_marks(made, window), row_step(rule, row, window))
            if made:
                kinds.add((made[0][0] is None, made[-1][1] is None))
        self.assertEqual(len(kinds), 4)

    def test_gaps_without_end_and_their_ends(self):
        self.assertEqual(row_stepped(((-2, 2),), ((None, 0), (3, None))), ((None, -2), (1, 2), (5, None)))
        self.assertEqual(row_stepped(((-2,), (2,)), ((None, 0), (9, None))), ((None, 2), (7, None)))
        self.assertEqual(row_stepped(((-2,), (2,)), ((None, 0), (3, None))), FULL)
        self.assertEqual(row_stepped(((-2,), (2,)), ((None, 0), (4, None))), FULL)
        self.assertEqual(row_stepped(((-2,), (2,)), ((None, 0), (6, None))), ((None, 2), (4, None)))

    def test_great_numbers(self):
        for draw in drawings(60, 407):
            rule, row = drawn_row_rule(draw), drawn_row(draw)
            far = draw.choice((-1, 1)) * (MOST - 99)
            moved = tuple(tuple(None if end is None else end + far for end in ends) for ends in row)
            wanted = tuple(tuple(None if end is None else end + far for end in ends) for ends in row_stepped(rule, row))
            self.assertEqual(row_stepped(rule, moved), wanted)
        self.assertEqual(row_stepped(((-BIG,), (BIG,)), ((-MOST, MOST),)), ((-MOST - BIG, MOST + BIG),))
        self.assertEqual(row_stepped(((-BIG, BIG),), ((-MOST, 0), (2, MOST))),
                         ((-MOST + BIG, -BIG), (2 - BIG, BIG), (BIG + 2, MOST - BIG)))

    def test_60_and_61_stretches(self):
        row = tuple((4 * k, 4 * k) for k in range(31))
        self.assertEqual(len(row_stepped(((0,), (1002,)), row[:30])), 60)
        self.refused(TooGreat(60), row_stepped, ((0,), (1002,)), row)
        sixty = tuple((4 * k, 4 * k) for k in range(60))
        self.assertEqual(len(row_stepped(((0,), (240,)), sixty[:30])), 60)
        self.assertEqual(len(row_stepped(((1,),), sixty)), 60)
        # One more by one need more, and none more where it fills a gap.
        self.refused(TooGreat(60), row_stepped, ((0,), (4,)), sixty)
        self.assertEqual(row_stepped(((0,), (1,), (2,), (3,)), sixty), ((-3, 236),))

    def test_many_needs(self):
        draw = drawings(1, 408)[0]
        rule = tuple(sorted({tuple(sorted(draw.sample(range(-60, 60), 12))) for _ in range(60)}))
        row = tuple((9 * k, 9 * k + draw.randint(0, 7)) for k in range(40))
        window = range(-100, 500)
        self.assertEqual(row_marks(row_stepped(rule, row), window), row_step(rule, row, window))
        single = tuple((3 * k, 3 * k) for k in range(50))
        self.assertEqual(row_stepped((tuple(range(0, 36, 3)),), single), tuple((3 * k, 3 * k) for k in range(39)))


class Long(Case):

    def test_just_long_enough(self):
        far = ((None, -999), (999, None))
        for rule, wide in ((MIDDLE, 2), (GROWS, 1), (((5,),), 0), (((-3, 4),), 7)):
            for ahead, rest in (((), ()), (far[:1], ()), ((), far[1:]), (far[:1], far[1:])):
                self.assertIs(is_long(rule, ahead + ((0, wide),) + rest), True)
                # Between two stretches there are the span and one place more.
                self.assertIs(is_long(rule, ahead + ((0, 9), (11 + wide, 30)) + rest), True)
                if wide > 0:
                    self.assertIs(is_long(rule, ahead + ((0, wide - 1),) + rest), False)
                    self.assertIs(is_long(rule, ahead + ((0, 9), (10 + wide, 30)) + rest), False)
            self.assertIs(is_long(rule, ((None, 0), (2 + wide, None))), True)
            if wide > 0:
                self.assertIs(is_long(rule, ((None, 0), (1 + wide, None))), False)

    def test_rows_with_nothing_to_ask(self):
        for rule in (MIDDLE, ((-BIG, BIG),)):
            for row in ((), FULL, ((None, 0),), ((0, None),)):
                self.assertIs(is_long(rowrule=rule, row=row), True)
        self.assertIs(is_long(((-BIG, BIG),), ((0, 2 * BIG),)), True)
        self.assertIs(is_long(((-BIG, BIG),), ((0, 2 * BIG - 1),)), False)

    def test_long_rows_are_led_stretch_by_stretch(self):
        kinds = set()
        for draw in drawings(400, 409):
            rule, row = drawn_row_rule(draw, 3, 3, 2), drawn_row(draw, 3, 9)
            wide = max(max(n) for n in rule) - min(min(n) for n in rule)
            ends = [end for ends in row for end in ends if end is not None]
            spare = [r - l for l, r in row if l is not None and r is not None]
            between = [m[0] - n[1] - 1 for n, m in zip(row, row[1:])]
            long = all(n >= wide for n in spare) and all(n >= wide + 1 for n in between)
            kinds.add((long, len(row) > 1, len(ends) > 0))
            self.assertIs(is_long(rule, row), long)
            if long:
                left, right = row_speeds(rule)
                self.assertEqual(row_stepped(rule, row), tuple((None if l is None else l - left,
                                                                None if r is None else r + right) for l, r in row))
        self.assertTrue({(True, True, True), (False, True, True), (True, False, True)} <= kinds)

    def test_parameters(self):
        self.refused(BadRule(()), is_long, None, None)
        self.refused(BadRow(((1, 0),)), is_long, GROWS, ((1, 0),))
        self.refused(BadRule(()), row_stepped, None, None)
        self.refused(BadRow([]), row_stepped, GROWS, [])

    def test_staying_rules(self):
        self.assertEqual(row_stepped(row_rule(STAY, (1, 2)), ((0, 3), (5, 5))), ((0, 3), (5, 5)))


if __name__ == "__main__":
    unittest.main()
