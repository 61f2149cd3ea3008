"""[25], [26], [27] All die."""

import itertools
import unittest

from allislands.cores import is_empty
from allislands.dooms import all_within, doom_of, gone_by, held_by, is_doom, last_step
from allislands.errors import BadIsland, BadParameter, BadRule, NoRow, TooGreat
from allislands.fans import never_faster
from allislands.islands import box
from allislands.rules import rule_of
from tests.tools import FAN_34, FAN_61, FAR, FOUR, LEFT, ODD, OFTEN, STAY, TWO, TWO_OF_FOUR, Case, all_ways, drawings
from tests.tools import drawn_island, drawn_rule, outcome, plain_corners, plain_fan, plain_speed, step

TWO_DOOM = ((1, 1), (-1, 0), (0, -1))
PAIR = ((0, 0), (1, 0))
# Marked where both neighbours to the left and to the right were: each row loses an end on both sides.
THIN = (((-1, 0), (1, 0)),)
# Of a box of 20 by 20 they leave nothing behind 60 steps, something, and more than 400 places on the way.
SIXTY = (((-2, -2), (2, 0)), ((-2, -1), (1, 1)), ((-1, -1), (2, 2)), ((-1, 0), (-1, 2), (1, -1)), ((1, -1), (2, -2)))
SLOW = (((-2, -1), (1, -2)), ((1, -2), (2, -2)))
WIDE = (((-3, 0), (-3, 1), (3, 1)), ((-3, 1), (-3, 2), (1, -2)), ((0, -3), (3, -1)), ((1, -1), (3, -1)), ((1, 0), (2, 0)))


def drawn_doomed(draw, needs=3, places=4, size=2):
    """A rule whose core is empty."""
    while True:
        rule = drawn_rule(draw, needs, places, size)
        if not plain_corners(plain_fan(rule)):
            return rule


def sum_of(directions):
    return (sum(a for a, b in directions), sum(b for a, b in directions))


class Dooms(Case):

    def test_examples(self):
        self.assertIs(is_doom(TWO, TWO_DOOM), True)
        self.assertIs(is_doom(rule=TWO, value=doom_of(rule=TWO)), True)
        for rule in (LEFT, STAY, FOUR, TWO_OF_FOUR):
            self.refused(NoRow(), doom_of, rule)
            self.assertIs(is_doom(rule, TWO_DOOM), False)
        self.assertIs(is_doom(THIN, ((0, 1), (0, -1))), False)
        self.assertIs(is_doom(THIN, ((1, 0), (-1, 0))), True)
        self.assertEqual(len(doom_of(THIN)), 2)

    def test_a_doom_exactly_if_the_core_is_empty(self):
        kinds = set()
        for draw in drawings(300, 110):
            rule = drawn_rule(draw, 4, 4, 2)
            empty = plain_corners(plain_fan(rule)) == ()
            self.assertIs(is_empty(rule), empty)
            if empty:
                doom = doom_of(rule)
                kinds.add(len(doom))
                self.assertTrue(isinstance(doom, tuple) and len(doom) in (2, 3))
                self.assertEqual(sum_of(doom), (0, 0))
                self.assertLess(sum(plain_speed(rule, u) for u in doom), 0)
                self.assertIs(is_doom(rule, doom), True)
            else:
                kinds.add(0)
                self.refused(NoRow(), doom_of, rule)
                for doom in itertools.product(all_ways(2), repeat=2):
                    third = sum_of(doom)
                    if third != (0, 0):
                        self.assertIs(is_doom(rule, doom + ((-third[0], -third[1]),)), False)
        self.assertEqual(kinds, {0, 2, 3})

    def test_dooms_of_wide_rules_are_directions(self):
        done = 0
        for draw in drawings(300, 111):
            rule = drawn_rule(draw, 3, 6, 20)
            doom = outcome(doom_of, rule)
            if doom != (NoRow, {}):
                done += 1
                self.assertIs(is_doom(rule, doom), True)
        self.assertGreater(done, 100)

    def test_values_of_any_kind(self):
        four = ((2, 2), (-2, 0), (0, -1), (0, -1))
        self.assertEqual((sum_of(four), sum(plain_speed(TWO, u) for u in four)), ((0, 0), -2))
        wrong = [four, (), TWO_DOOM[:1], TWO_DOOM[:2], TWO_DOOM + ((0, 1),), TWO_DOOM + TWO_DOOM[:0] + ((1, 0), (-1, 0)),
                 list(TWO_DOOM), ([1, 1], (-1, 0), (0, -1)), ((1, 1), (-1, 0), (0, -1), (0, 0)), ((1, 1), (-1, -1)),
                 ((0, 0), (1, 1), (-1, -1)), ((1, 1), (-1, 0), (0, True)), ((1, 1), (-1, 0), (0, -1.0)),
                 ((FAR + 1, FAR + 1), (-FAR - 1, 0), (0, -FAR - 1)), ((1, 1), (-1, 0), (0, -2)), ((1, 1), (-2, 0), (0, -1)),
                 ((-1, -1), (1, 0), (0, 1)), ((1, 1), (-1, 0), None), ((1, 1, 0), (-1, 0), (0, -1))]
        for value in wrong + list(ODD):
            self.assertIs(is_doom(TWO, value), False, value)
        for doom in itertools.permutations(TWO_DOOM):
            self.assertIs(is_doom(TWO, doom), True)
        self.assertIs(is_doom(TWO, tuple((FAR * a, FAR * b) for a, b in TWO_DOOM)), True)
        self.assertIs(is_doom(TWO, ((2, 2), (-2, 0), (0, -2))), True)
        # Directions need not be unlike, nor plain.
        self.assertIs(is_doom(THIN, ((2, 0), (-1, 0), (-1, 0))), True)

    def test_speeds_with_the_sum_0(self):
        for value in (((1, 0), (-1, 0)), ((0, 1), (0, -1)), ((1, 1), (-1, -1)), ((1, -1), (-1, 1))):
            self.assertEqual(sum(plain_speed(STAY, u) for u in value), 0)
            self.assertIs(is_doom(STAY, value), False)
            self.assertIs(is_doom(TWO, value), False)
        self.assertIs(is_doom(STAY, TWO_DOOM), False)
        self.assertIs(is_doom(TWO, ((-1, -1), (1, 0), (0, 1))), False)

    def test_facts(self):
        slower = 0
        for draw in drawings(60, 112):
            rule = drawn_doomed(draw)
            doom = doom_of(rule)
            about = tuple((-a, -b) for a, b in doom)
            turned = rule_of(tuple(tuple(sorted((-x, -y) for x, y in need)) for need in rule))
            self.assertIs(is_doom(turned, about), True)
            for _ in range(6):
                other = drawn_rule(draw, 2, 4, 2)
                if never_faster(other, rule):
                    slower += 1
                    self.assertIs(is_doom(other, doom), True)
        self.assertGreater(slower, 3)

    def test_parameters(self):
        for rule in (None, (), [((0, 0),)]):
            self.refused(BadRule(()), doom_of, rule)
            self.refused(BadRule(()), is_doom, rule, TWO_DOOM)
        self.refused(TooGreat(60), doom_of, FAN_61)
        self.refused(TooGreat(60), doom_of, FAN_34)
        # Judging asks no fan.
        self.assertIs(is_doom(FAN_61, TWO_DOOM), False)


class HeldBy(Case):

    def test_example(self):
        self.assertEqual(held_by(TWO, PAIR, TWO_DOOM, 0), (1, 0, 0))
        self.assertEqual(held_by(rule=TWO, island=PAIR, doom=TWO_DOOM, steps=1), (0, 0, 0))
        self.assertEqual(held_by(TWO, PAIR, TWO_DOOM, OFTEN), (1 - OFTEN, 0, 0))
        self.assertEqual(held_by(TWO, PAIR, TWO_DOOM[1:] + TWO_DOOM[:1], 3), (0, 0, -2))
        self.assertEqual(gone_by(rule=TWO, island=PAIR, doom=TWO_DOOM), 2)
        self.assertEqual(gone_by(TWO, (), TWO_DOOM), 0)
        self.assertEqual(gone_by(TWO, ((5, -7),), TWO_DOOM), 1)

    def test_against_steps_done(self):
        spare = 0
        for draw in drawings(60, 113):
            rule = drawn_doomed(draw, 3, 3)
            doom, island = doom_of(rule), drawn_island(draw) or ((0, 0),)
            marks, gone = set(island), gone_by(rule, island, doom)
            for n in range(min(gone, 25) + 1):
                numbers = held_by(rule, island, doom, n)
                self.assertIsInstance(numbers, tuple)
                start = held_by(rule, island, doom, 0)
                self.assertEqual(start, tuple(max(a * x + b * y for x, y in island) for a, b in doom))
                self.assertEqual(numbers, tuple(m + n * plain_speed(rule, u) for m, u in zip(start, doom)))
                self.assertEqual(sum(numbers) < 0, n >= gone)
                for u, m in zip(doom, numbers):
                    self.assertTrue(all(u[0] * x + u[1] * y <= m for x, y in marks))
                self.assertFalse(marks and n >= gone)
                spare += n < gone and not marks
                marks = step(rule, marks)
            self.assertLess(sum(held_by(rule, island, doom, gone)), 0)
            self.assertGreaterEqual(sum(held_by(rule, island, doom, gone - 1)), 0)
        self.assertGreater(spare, 0)

    def test_far_islands(self):
        island = ((-10 ** 9, -10 ** 9), (10 ** 9, 10 ** 9))
        self.assertEqual(gone_by(TWO, island, TWO_DOOM), 4 * 10 ** 9 + 1)
        self.assertEqual(held_by(TWO, island, TWO_DOOM, 4 * 10 ** 9), (-2 * 10 ** 9, 10 ** 9, 10 ** 9))

    def test_order_of_parameters(self):
        wrong = ((0, 0), (0, 0))
        self.refused(BadRule(()), held_by, None, wrong, None, None)
        self.refused(BadIsland(wrong), held_by, TWO, wrong, None, None)
        self.refused(BadRule(()), gone_by, None, wrong, None)
        self.refused(BadIsland(wrong), gone_by, TWO, wrong, None)
        for doom in (None, (), TWO_DOOM[:2], list(TWO_DOOM), ((1, 0), (-1, 0)), ((1, 0), [-1, 0]), 7):
            self.refused(BadParameter(doom), held_by, TWO, (), doom, None)
            self.refused(BadParameter(doom), gone_by, TWO, (), doom)
        for doom in (TWO_DOOM, ()):
            self.refused(BadParameter(doom), gone_by, LEFT, PAIR, doom)
        for steps in (-1, OFTEN + 1, True, False, None, 1.0, "1"):
            self.refused(BadParameter(steps), held_by, TWO, (), TWO_DOOM, steps)
        self.refused(NoRow(), held_by, TWO, (), TWO_DOOM, 0)


class Boxes(Case):

    def test_examples(self):
        self.assertEqual([last_step(TWO, *size) for size in ((1, 1), (2, 1), (2, 2))], [1, 2, 3])
        self.assertEqual(last_step(rule=TWO, width=1, height=2), 2)
        self.assertIs(all_within(rule=TWO, width=2, height=2, steps=3), True)
        self.assertIs(all_within(TWO, 2, 2, 2), False)
        self.assertIs(all_within(TWO, 1, 1, 0), False)
        self.assertIs(all_within(TWO, 1, 1, 60), True)

    def test_against_steps_done(self):
        for draw in drawings(40, 114):
            rule, width, height = drawn_doomed(draw), draw.randint(1, 4), draw.randint(1, 4)
            marks, n = set(box(width, height)), 0
            while marks and n < 61 and len(marks) <= 400:
                marks, n = step(rule, marks), n + 1
            if n > 60 or len(marks) > 400:
                continue
            self.assertEqual(last_step(rule, width, height), n)
            self.assertIs(all_within(rule, width, height, n), True)
            self.assertIs(all_within(rule, width, height, n - 1), False)
            self.assertLessEqual(n, gone_by(rule, box(width, height), doom_of(rule)))
            self.assertLessEqual(n, last_step(rule, width + 1, height + 1))
            for _ in range(5):
                island = {p for p in box(width, height) if draw.random() < 0.7}
                for _ in range(n):
                    island = step(rule, island)
                self.assertFalse(island)

    def test_steps_at_their_bounds(self):
        # A row of 20 loses one place behind each step: 20 steps, of two places and one: 39 is not let.
        row = (((0, 0), (1, 0)),)
        self.assertEqual([last_step(row, width, 1) for width in (1, 19, 20)], [1, 19, 20])
        self.assertIs(all_within(row, 20, 20, 20), True)
        self.assertIs(all_within(row, 20, 20, 19), False)
        # TWO: a box goes behind as many steps as both sides have together, less one.
        self.assertEqual([last_step(TWO, 20, height) for height in (1, 2, 20)], [20, 21, 39])

    def test_more_than_60_steps(self):
        self.assertEqual(last_step(SIXTY, 20, 20), 60)
        self.assertIs(all_within(SIXTY, 20, 20, 60), True)
        self.assertIs(all_within(SIXTY, 20, 20, 59), False)
        marks = set(box(20, 20))
        for _ in range(60):
            marks = step(SLOW, marks)
        self.assertTrue(marks)
        self.refused(TooGreat(60), last_step, SLOW, 20, 20)
        self.assertIs(all_within(SLOW, 20, 20, 60), False)

    def test_more_than_400_places(self):
        marks, n = set(box(20, 20)), 0
        while len(marks) <= 400:
            marks, n = step(WIDE, marks), n + 1
        self.refused(TooGreat(400), last_step, WIDE, 20, 20)
        self.refused(TooGreat(400), all_within, WIDE, 20, 20, n)
        self.refused(TooGreat(400), all_within, WIDE, 20, 20, 60)
        self.assertIs(all_within(WIDE, 20, 20, n - 1), False)
        self.assertIs(all_within(WIDE, 20, 20, 0), False)

    def test_order_of_parameters(self):
        for call, rest in ((last_step, ()), (all_within, (None,))):
            self.refused(BadRule(()), call, None, 0, 0, *rest)
            for wrong in (0, 21, -1, True, False, None, 1.0, "1", (1,)):
                self.refused(BadParameter(wrong), call, LEFT, wrong, None, *rest)
                self.refused(BadParameter(wrong), call, LEFT, 20, wrong, *rest)
        for wrong in (-1, 61, True, False, None, 1.0):
            self.refused(BadParameter(wrong), all_within, LEFT, 1, 1, wrong)
        for rule in (LEFT, STAY, FOUR, TWO_OF_FOUR):
            self.refused(NoRow(), last_step, rule, 1, 1)
            self.refused(NoRow(), all_within, rule, 1, 1, 0)
            self.refused(BadParameter(0), last_step, rule, 1, 0)
        for rule in (FAN_61, FAN_34):
            self.refused(TooGreat(60), last_step, rule, 1, 1)
            self.refused(TooGreat(60), all_within, rule, 1, 1, 0)
            self.refused(BadParameter(61), all_within, rule, 1, 1, 61)


if __name__ == "__main__":
    unittest.main()
