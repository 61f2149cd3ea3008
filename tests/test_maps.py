"""[49], [50] The board changed."""

import itertools
import math
import unittest

from allislands.bars import bars
from allislands.cores import core, is_empty
from allislands.errors import BadDirection, BadIsland, BadMap, BadPlace, BadPoint, BadRule, NoRow
from allislands.islands import box
from allislands.maps import (TURNS, change_behind, mapped_direction, mapped_island, mapped_place, mapped_point,
                             mapped_rule, need_change, turned_to, turns_of, undone_change)
from allislands.rules import moved_by, need_rule, rule_of
from tests.tools import (FAR, FOUR, LEFT, MOST, ODD, SQUARE, STAY, TWO, TWO_OF_FOUR, Case, all_ways, drawings,
                         drawn_island,
                         drawn_point, drawn_rule, fraction_point, hull, outcome, plain_speed, step)

BIG = 10 ** 9
STILL = ((1, 0), (0, 1))
LEFTWARD = ((0, -1), (1, 0))
SHEAR = ((1, 1), (0, 1))
NO_CHANGES = ODD + (((1, 0), (0, 2)), ((1, 0), (0, 0)), ((1, 1), (1, 1)), ((2, 0), (0, 2)), ((1, 0), (2, 0)),
                    [(1, 0), (0, 1)], ([1, 0], (0, 1)), ((1, 0), [0, 1]), ((True, 0), (0, 1)), ((1, False), (0, 1)),
                    ((1, 0), (0, True)), ((1.0, 0), (0, 1)), ((1, 0), (0, 1), (0, 0)), ((1, 0, 0), (0, 1, 0)),
                    ((1, FAR + 1), (0, 1)), ((1, -FAR - 1), (0, 1)), ((1, 0), (FAR + 1, 1)), ((1, 0), (-FAR - 1, 1)),
                    ((1, 0), (0, None)), ((1, 0),))


def drawn_change(draw, steps=4):
    """A change put together from simple ones."""
    made = draw.choice(TURNS)
    for _ in range(draw.randint(0, steps)):
        k = draw.randint(-2, 2)
        made = plain_behind(made, draw.choice((((1, k), (0, 1)), ((1, 0), (k, 1)))))
    return made


def plain_behind(one, other):
    return tuple(tuple(sum(other[i][k] * one[k][j] for k in (0, 1)) for j in (0, 1)) for i in (0, 1))


def led(place, change):
    return (change[0][0] * place[0] + change[0][1] * place[1], change[1][0] * place[0] + change[1][1] * place[1])


def sign_of(change):
    return change[0][0] * change[1][1] - change[0][1] * change[1][0]


def plain_rule(rule, change):
    return tuple(sorted(tuple(sorted(led(place, change) for place in need)) for need in rule))


class Changes(Case):

    def test_changes(self):
        for change in (STILL, LEFTWARD, SHEAR, ((1, FAR), (0, 1)), ((-1, -FAR), (0, 1)), ((FAR, FAR - 1), (1, 1)),
                       ((FAR, 1), (-1, 0)), ((2, 3), (1, 1)), ((2, 3), (1, 2)), ((0, 1), (1, -FAR))):
            self.assertIn(sign_of(change), (1, -1))
            self.assertEqual(need_change(change), change)
            self.assertEqual(need_change(change=change), change)

    def test_what_is_none(self):
        point, rule, way = (0, 0, 1), TWO, (1, 0)
        for value in NO_CHANGES:
            self.refused(BadMap(value), need_change, value)
            for call, told in ((mapped_place, (0, 0)), (mapped_island, ()), (mapped_point, point), (mapped_rule, rule),
                               (mapped_direction, way), (change_behind, STILL)):
                self.refused(BadMap(value), call, told, value)
            self.refused(BadMap(value), undone_change, value)
            self.refused(BadMap(value), change_behind, value, None)
        for a, b, c, d in itertools.product(range(-2, 3), repeat=4):
            found = outcome(need_change, ((a, b), (c, d)))
            self.assertEqual(found == ((a, b), (c, d)), a * d - b * c in (1, -1))

    def test_what_is_led(self):
        self.assertEqual(mapped_place((3, 4), ((2, 3), (1, 1))), (18, 7))
        self.assertEqual(mapped_place(place=(3, 4), change=LEFTWARD), (-4, 3))
        self.assertEqual(mapped_island(island=((0, 0), (0, 1), (1, 0)), change=LEFTWARD), ((-1, 0), (0, 0), (0, 1)))
        self.assertEqual(mapped_island((), SHEAR), ())
        self.assertEqual(mapped_point(point=(1, 2, 3), change=SHEAR), (3, 2, 3))
        self.assertEqual(mapped_point((MOST, -MOST, 1), LEFTWARD), (MOST, MOST, 1))
        self.assertEqual(mapped_rule(LEFT, LEFTWARD), (((0, 0),), ((0, 1),)))
        self.assertEqual(mapped_rule(rule=TWO, change=((0, 1), (1, 0))), TWO)
        for draw in drawings(80, 490):
            change, island, point = drawn_change(draw), drawn_island(draw), drawn_point(draw)
            rule, place = drawn_rule(draw), (draw.randint(-BIG, BIG), draw.randint(-BIG, BIG))
            self.assertEqual(mapped_place(place, change), led(place, change))
            self.assertEqual(mapped_island(island, change), tuple(sorted(led(each, change) for each in island)))
            found = mapped_point(point, change)
            self.assertEqual(math.gcd(*found), 1)
            self.assertEqual(found[2], point[2])
            self.assertEqual(fraction_point(found), led(fraction_point(point), change))
            self.assertEqual(mapped_rule(rule, change), plain_rule(rule, change))

    def test_mapped_direction(self):
        self.assertEqual(mapped_direction((1, 0), LEFTWARD), (0, 1))
        self.assertEqual(mapped_direction(direction=(1, 0), change=SHEAR), (1, -1))
        self.assertEqual(mapped_direction((4, 6), STILL), (4, 6))
        for draw in drawings(150, 491):
            change = drawn_change(draw)
            u = (draw.randint(-9, 9), draw.choice((-3, 1, FAR)))
            v = mapped_direction(u, change)
            for x, y in itertools.product(range(-2, 3), repeat=2):
                there = led((x, y), change)
                self.assertEqual(v[0] * there[0] + v[1] * there[1], u[0] * x + u[1] * y)

    def test_undone_and_behind(self):
        self.assertEqual(undone_change(LEFTWARD), ((0, 1), (-1, 0)))
        self.assertEqual(undone_change(change=((2, 3), (1, 1))), ((-1, 3), (1, -2)))
        # First one, then other.
        self.assertEqual(change_behind(SHEAR, LEFTWARD), ((0, -1), (1, 1)))
        self.assertEqual(change_behind(one=LEFTWARD, other=SHEAR), ((1, -1), (1, 0)))
        for draw in drawings(100, 492):
            one, other, place = drawn_change(draw), drawn_change(draw), (draw.randint(-99, 99), draw.randint(-99, 99))
            both = change_behind(one, other)
            self.assertEqual(mapped_place(place, both), mapped_place(mapped_place(place, one), other))
            self.assertEqual(mapped_place(mapped_place(place, one), undone_change(one)), place)
            self.assertEqual(change_behind(one, undone_change(one)), STILL)
            self.assertEqual(undone_change(both), change_behind(undone_change(other), undone_change(one)))
            self.assertEqual(undone_change(undone_change(one)), one)

    def test_results_beyond_parameters(self):
        far = ((1, FAR), (0, 1))
        self.assertEqual(change_behind(far, far), ((1, 2 * FAR), (0, 1)))
        self.refused(BadMap(change_behind(far, far)), need_change, change_behind(far, far))
        self.assertEqual(mapped_place((BIG, BIG), far), (BIG + FAR * BIG, BIG))
        self.assertEqual(mapped_island(((BIG, BIG),), far), ((BIG + FAR * BIG, BIG),))
        self.assertEqual(mapped_rule((((0, 20),),), far), (((20 * FAR, 20),),))
        self.assertEqual(mapped_point((0, MOST, 1), far), (FAR * MOST, MOST, 1))
        self.assertEqual(mapped_direction((FAR, 0), far), (FAR, -FAR * FAR))

    def test_parameters_in_their_order(self):
        self.refused(BadPlace((BIG + 1, 0)), mapped_place, (BIG + 1, 0), None)
        self.refused(BadIsland(((1, 0), (0, 0))), mapped_island, ((1, 0), (0, 0)), None)
        self.refused(BadPoint((2, 2, 2)), mapped_point, (2, 2, 2), None)
        self.refused(BadRule((1,)), mapped_rule, (((1, 0),), ((0, 0),)), None)
        self.refused(BadDirection((0, 0)), mapped_direction, (0, 0), None)


class Facts(Case):

    def test_steps_speeds_bars_and_cores(self):
        signs = set()
        for draw in drawings(100, 493):
            rule, change, island = drawn_rule(draw, 3, 3, 1), drawn_change(draw, 2), drawn_island(draw, 9, 3)
            made = mapped_rule(rule, change)
            self.assertEqual({led(p, change) for p in step(rule, set(island))},
                             step(made, set(mapped_island(island, change))))
            for u in all_ways(2):
                self.assertEqual(plain_speed(made, mapped_direction(u, change)), plain_speed(rule, u))
            if outcome(need_rule, made) != made:
                continue
            self.assertEqual(bars(made), mapped_rule(bars(rule), change))
            self.assertIs(is_empty(made), is_empty(rule))
            corners = core(rule)
            wanted = [mapped_point(point, change) for point in corners][::sign_of(change)]
            if len(wanted) > 2:
                signs.add(sign_of(change))
            # The same corners in their round, or the other way round, from the least one on.
            if wanted:
                at = wanted.index(min(wanted, key=fraction_point))
                wanted = wanted[at:] + wanted[:at]
            self.assertEqual(core(made), tuple(wanted))
            self.assertEqual(len(hull(map(fraction_point, wanted))), len(wanted))
        self.assertEqual(signs, {1, -1})


class Turns(Case):

    def test_all_eight(self):
        signed = [((a, b), (c, d)) for a, b, c, d in itertools.product((-1, 0, 1), repeat=4)
                  if [a, b].count(0) == [c, d].count(0) == [a, c].count(0) == [b, d].count(0) == 1]
        self.assertEqual(TURNS, tuple(sorted(signed)))
        self.assertEqual(len(TURNS), 8)
        for turn in TURNS:
            self.assertEqual(need_change(turn), turn)
            self.assertIn(undone_change(turn), TURNS)

    def test_turns_of(self):
        self.assertEqual(turns_of(TWO), (((0, 1), (1, 0)), STILL))
        self.assertEqual(turns_of(rule=LEFT), (((1, 0), (0, -1)), STILL))
        for rule in (STAY, FOUR, SQUARE):
            self.assertEqual(turns_of(rule), TURNS)
        self.assertEqual(turns_of((((0, 0), (1, 2)),)), (STILL,))
        # Only when moved back it would be as it was.
        self.assertNotIn(((-1, 0), (0, -1)), turns_of(TWO_OF_FOUR))
        for draw in drawings(60, 494):
            rule = drawn_rule(draw, 3, 2, 1)
            turns = turns_of(rule)
            self.assertEqual(turns, tuple(t for t in sorted(TURNS) if plain_rule(rule, t) == rule))
            for one, other in itertools.product(turns, repeat=2):
                self.assertIn(change_behind(one, other), turns)
            self.assertTrue(all(undone_change(turn) in turns for turn in turns))

    def test_turned_to(self):
        self.assertEqual(turned_to(LEFT, (((0, 0),), ((0, 1),))), (((0, -1), (-1, 0)), (0, -1)))
        # The least turn comes first, though another one asks no move.
        self.assertEqual(turned_to(LEFT, LEFT), (((-1, 0), (0, -1)), (-1, 0)))
        self.assertEqual(turned_to(one=STAY, other=(((7, -9),),)), (((-1, 0), (0, -1)), (-7, 9)))
        self.assertEqual(turned_to(TWO, TWO), (((0, 1), (1, 0)), (0, 0)))
        self.refused(NoRow(), turned_to, LEFT, STAY)
        self.refused(NoRow(), turned_to, LEFT, (((0, 0),), ((2, 0),)))
        self.refused(NoRow(), turned_to, (((0, 0), (1, 2)),), (((0, 0), (1, 3)),))
        self.refused(NoRow(), turned_to, TWO, (((0, 0), (0, 1)),))

    def test_the_least_pair(self):
        found = 0
        for draw in drawings(60, 495):
            rule, turn = drawn_rule(draw, 3, 3, 2), draw.choice(TURNS)
            place = (draw.randint(-9, 9), draw.randint(-9, 9))
            other = moved_by(mapped_rule(rule, turn), place)
            if draw.random() < 0.3:
                other = rule_of(other + (((5, 5), (6, 5)),))
            if outcome(need_rule, other) != other:
                continue
            pairs = [(t, (x, y)) for t in TURNS for x, y in itertools.product(range(-16, 17), repeat=2)
                     if x == min(min(need) for need in plain_rule(rule, t))[0] - min(min(need) for need in other)[0]
                     and moved_by(plain_rule(rule, t), (x, y)) == other]
            self.assertEqual(outcome(turned_to, rule, other), min(pairs) if pairs else (NoRow, {}))
            # At most one place for each turn.
            self.assertEqual(len(pairs), len({t for t, p in pairs}))
            found += bool(pairs)
        self.assertGreater(found, 30)

    def test_far_moves(self):
        one, other = (((-20, -20),),), (((20, 20),),)
        self.assertEqual(turned_to(one, other), (((-1, 0), (0, -1)), (0, 0)))
        wide, back = (((-20, 0), (-18, 1)),), (((18, 19), (20, 20)),)
        self.assertEqual(turned_to(wide, back), (((-1, 0), (0, -1)), (0, -20)))
        self.assertEqual(turned_to((((20, 0), (20, 3)),), (((-20, 0), (-20, 3)),)), (((-1, 0), (0, -1)), (0, -3)))

    def test_parameters(self):
        for rule in (None, (), [((0, 0),)]):
            self.refused(BadRule(()), turns_of, rule)
            self.refused(BadRule(()), turned_to, rule, None)
            self.refused(BadRule(()), turned_to, rule, TWO)
            self.refused(BadRule(()), turned_to, TWO, rule)
        self.assertEqual(mapped_island(box(2, 2), LEFTWARD), ((-1, 0), (-1, 1), (0, 0), (0, 1)))


if __name__ == "__main__":
    unittest.main()
