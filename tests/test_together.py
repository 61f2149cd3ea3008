"""[12] Rules put together."""

import unittest

from allislands.errors import BadParameter, BadPlace, BadRule, TooGreat
from allislands.rules import (behind, both_marked, either_marked, is_lesser, moved_by, need_rule, power, stepped,
                              stepped_times)
from tests.tools import (LEFT, MANY, MANY_UP, STAY, TWO, Case, drawings, drawn_island, drawn_rule, least, outcome,
                         step)

BIG = 10 ** 9
SIXTY = tuple(((x, y),) for x in range(6) for y in range(10))


class Refused(Exception):
    """More than 60 needs, in the plain way of putting together."""


def kept(needs):
    found = least(needs)
    if len(found) > 60:
        raise Refused()
    return found


def joint(one, other):
    return kept(tuple(sorted(set(n) | set(m))) for n in one for m in other)


def plain_behind(one, other):
    """By the document's words, need by need and place by place."""
    made = ()
    for need in other:
        parts = None
        for x, y in need:
            moved = [tuple((a + x, b + y) for a, b in n) for n in one]
            parts = kept(moved) if parts is None else joint(parts, moved)
        made = kept(made + parts)
    return made


def plain(call, *told):
    try:
        return call(*told)
    except Refused:
        return (TooGreat, {"most": 60})


class Together(Case):

    def test_either(self):
        self.assertEqual(either_marked(TWO, STAY), (((0, 0),), ((0, 1), (1, 0))))
        self.assertEqual(either_marked(one=STAY, other=(((1, 0),),)), LEFT)
        self.assertEqual(either_marked(TWO, TWO), TWO)

    def test_both(self):
        self.assertEqual(both_marked(TWO, STAY), (((0, 0), (0, 1)), ((0, 0), (1, 0))))
        self.assertEqual(both_marked(one=STAY, other=(((1, 0),),)), (((0, 0), (1, 0)),))
        self.assertEqual(both_marked(TWO, TWO), TWO)

    def test_behind(self):
        self.assertEqual(behind(LEFT, LEFT), (((0, 0),), ((1, 0),), ((2, 0),)))
        self.assertEqual(behind(one=TWO, other=STAY), TWO)
        self.assertEqual(behind(STAY, TWO), TWO)
        self.assertEqual(behind((((1, 2),),), (((0, 3), (4, 0)),)), (((1, 5), (5, 2)),))

    def test_behind_hangs_on_the_order(self):
        one, other = (((0, 0), (1, 0)),), (((0, 0),), ((3, 0),))
        self.assertEqual(behind(one, other), (((0, 0), (1, 0)), ((3, 0), (4, 0))))
        self.assertEqual(behind(other, one), (((0, 0), (1, 0)), ((0, 0), (4, 0)), ((1, 0), (3, 0)),
                                              ((3, 0), (4, 0))))

    def test_moved_by(self):
        self.assertEqual(moved_by(LEFT, (3, -4)), (((-3, 4),), ((-2, 4),)))
        self.assertEqual(moved_by(rule=STAY, place=(BIG, -BIG)), (((-BIG, BIG),),))
        self.assertEqual(moved_by(TWO, (0, 0)), TWO)

    def test_power(self):
        self.assertEqual(power(TWO, 0), STAY)
        self.assertEqual(power(rule=TWO, times=1), TWO)
        self.assertEqual(power(LEFT, 59), tuple(((k, 0),) for k in range(60)))
        self.refused(TooGreat(60), power, LEFT, 60)
        self.assertEqual(power((((1, -1),),), 60), (((60, -60),),))
        self.assertEqual(power((((0, 0), (1, 0)),), 60), (tuple((k, 0) for k in range(61)),))

    def test_power_is_made_from_within(self):
        made = STAY
        for times in range(4):
            self.assertEqual(power(TWO, times), made)
            made = plain(plain_behind, made, TWO)
        self.assertEqual(made, (TooGreat, {"most": 60}))
        self.refused(TooGreat(60), power, TWO, 4)
        self.refused(TooGreat(60), power, TWO, 60)

    def test_drawn_ones_do_what_steps_do(self):
        for draw in drawings(150, 10):
            one, other = drawn_rule(draw), drawn_rule(draw)
            island = drawn_island(draw, 25, 3)
            marks = set(island)
            place = (draw.randint(-9, 9), draw.randint(-9, 9))
            first, second = step(one, marks), step(other, marks)
            self.assertEqual(step(moved_by(one, place), marks), {(x + place[0], y + place[1]) for x, y in first})
            for call, wanted in ((either_marked, first | second), (both_marked, first & second),
                                 (behind, step(other, first))):
                made = outcome(call, one, other)
                if made != (TooGreat, {"most": 60}):
                    self.assertEqual(step(made, marks), wanted)
            made = outcome(power, one, 2)
            if made != (TooGreat, {"most": 60}):
                self.assertEqual(step(made, marks), step(one, first))

    def test_drawn_ones_are_made_in_the_told_order(self):
        refused = 0
        for draw in drawings(100, 11):
            one, other = drawn_rule(draw, 8, 3, 3), drawn_rule(draw, 8, 3, 3)
            made = outcome(behind, one, other)
            refused += made == (TooGreat, {"most": 60})
            self.assertEqual(made, plain(plain_behind, one, other))
            self.assertEqual(outcome(both_marked, one, other), plain(joint, one, other))
            self.assertEqual(outcome(either_marked, one, other), plain(kept, one + other))
            self.assertEqual(outcome(power, one, 2), plain(plain_behind, one, one))
        self.assertTrue(20 < refused < 90, refused)

    def test_facts(self):
        for draw in drawings(60, 12):
            one, other, third = [drawn_rule(draw, 2, 2, 1) for _ in range(3)]
            self.assertEqual(behind(behind(one, other), third), behind(one, behind(other, third)))
            self.assertTrue(is_lesser(both_marked(one, other), either_marked(one, other)))
            self.assertEqual(behind(one, either_marked(other, third)),
                             either_marked(behind(one, other), behind(one, third)))

    def test_sixty_needs_are_let(self):
        self.assertEqual(either_marked(SIXTY[:30], SIXTY[30:]), SIXTY)
        self.assertEqual(either_marked(SIXTY, SIXTY), SIXTY)
        self.refused(TooGreat(60), either_marked, SIXTY, (((6, 0),),))
        self.refused(TooGreat(60), either_marked, MANY, MANY_UP)
        self.assertEqual(len(both_marked(SIXTY, (((6, 0),),))), 60)
        self.refused(TooGreat(60), both_marked, SIXTY[:7], tuple(((7, y),) for y in range(9)))
        self.assertEqual(len(both_marked(SIXTY[:6], tuple(((7, y),) for y in range(10)))), 60)
        self.assertEqual(len(behind(SIXTY[:10], tuple(((x, 0),) for x in range(6)))), 60)
        self.refused(TooGreat(60), behind, SIXTY[:10], tuple(((x, 0),) for x in range(7)))

    def test_more_than_60_from_within_are_refused_even_if_fewer_were_left(self):
        row = tuple(((k, 0),) for k in range(9))
        other = (((0, 0),), ((0, 5), (1, 0)))
        pairs = [((j, 5), (k + 1, 0)) for j in range(9) for k in range(9)]
        left = least([*row, *[tuple(sorted(pair)) for pair in pairs]])
        self.assertEqual((len(least(pairs)), len(left)), (81, 18))
        self.refused(TooGreat(60), behind, row, other)

    def test_more_than_60_on_the_way_are_refused_even_if_a_later_need_takes_them(self):
        first = tuple(((k, 0),) for k in range(8))
        # Its first need alone leads to 64 needs, both together to 16.
        other = (((0, 0), (0, 5)), ((1, 0),))
        self.refused(TooGreat(60), behind, first, other)
        self.assertEqual(len(behind(first[:7], other)), 14)

    def test_results_may_have_greater_needs(self):
        long = (tuple((k, 0) for k in range(12)),)
        made = behind(long, (((0, 0), (12, 0)),))
        self.assertEqual(made, (tuple((k, 0) for k in range(24)),))
        far = moved_by(STAY, (21, 0))
        for rule in (made, far):
            for call, told in ((need_rule, ()), (stepped, ((),)), (either_marked, (STAY,)), (power, (1,))):
                self.refused(BadRule((0,)), call, rule, *told)
        self.assertEqual(both_marked(long, (((0, 5),),)), (tuple(sorted(long[0] + ((0, 5),))),))

    def test_parameters(self):
        bad = (((1, 0),), ((0, 0),))
        for call in (either_marked, both_marked, behind):
            self.refused(BadRule((1,)), call, bad, None)
            self.refused(BadRule(()), call, SIXTY, None)
            self.refused(BadRule((1,)), call, MANY, bad)
        self.refused(BadRule((1,)), moved_by, bad, None)
        self.refused(BadPlace((BIG + 1, 0)), moved_by, STAY, (BIG + 1, 0))
        self.refused(BadRule((1,)), power, bad, None)
        for times in (-1, 61, True, 1.0, "1", None, 10 ** 30):
            self.refused(BadParameter(times), power, LEFT, times)

    def test_power_is_so_many_steps(self):
        for draw in drawings(40, 13):
            rule, island = drawn_rule(draw, 2, 2), drawn_island(draw, 6, 3)
            for times in range(4):
                made = outcome(power, rule, times)
                if made != (TooGreat, {"most": 60}):
                    self.assertEqual(step(made, set(island)), set(stepped_times(rule, island, times)))


if __name__ == "__main__":
    unittest.main()
