"""[3], [10], [11] Rules as values, and their steps."""

import unittest

from allislands.errors import BadIsland, BadParameter, BadRule, NoRow, TooGreat
from allislands.islands import box, shifted
from allislands.rules import (is_lesser, is_parting, need_rule, parting_island, rule_of, stepped,
                              stepped_times)
from tests.tools import (LEFT, MANY, ODD, STAY, TWO, Case, drawings, drawn_island, drawn_places, drawn_rule, least,
                         outcome, step)

BIG = 10 ** 9
TWELVE = tuple((k, 0) for k in range(12))
ROW = box(400, 1)
SIXTY = tuple(((x, y),) for x in range(6) for y in range(10))
NO_NEEDS = ODD + ((), TWELVE + ((12, 0),), ((21, 0),), ((-21, 0),), ((0, 21),), ((0, -21),), ((1, 0), (0, 0)),
                  ((0, 0), (0, 0)), [(0, 0)], ((0, 0), None), ((0, 0, 0),), ((0, True),))


class NeedRule(Case):

    def test_rules(self):
        for rule in (TWO, LEFT, STAY, (TWELVE,), (((-20, 20), (20, -20)),), SIXTY, MANY):
            self.assertEqual(need_rule(rule), rule)
            self.assertEqual(need_rule(rule=rule), rule)

    def test_what_is_no_tuple_of_1_to_60_things(self):
        for rule in (None, 5, "abc", [], [((0, 0),)], {}, (), SIXTY + (((6, 0),),), (None,) * 61):
            self.refused(BadRule(()), need_rule, rule)

    def test_the_first_that_is_no_need(self):
        for bad in NO_NEEDS:
            self.refused(BadRule((0,)), need_rule, (bad,))
            self.refused(BadRule((1,)), need_rule, (((0, 0),), bad, bad))
            self.refused(BadRule((59,)), need_rule, SIXTY[:59] + (bad,))

    def test_needs_ascend(self):
        self.refused(BadRule((1,)), need_rule, (((1, 0),), ((0, 0),)))
        self.refused(BadRule((1,)), need_rule, (((0, 0),), ((0, 0),)))
        self.refused(BadRule((2,)), need_rule, (((0, 0),), ((2, 0),), ((1, 0),), ((0, 0),)))

    def test_no_need_has_all_places_of_another_one(self):
        self.refused(BadRule((1,)), need_rule, (((0, 0),), ((0, 0), (1, 0))))
        self.refused(BadRule((0,)), need_rule, (((0, 0), (1, 0)), ((1, 0),)))
        self.refused(BadRule((2,)), need_rule, (((-1, 0),), ((0, 0), (2, 0)), ((0, 0), (2, 0), (3, 0))))
        self.refused(BadRule((1,)), need_rule, (((-1, 0), (3, 0)), ((0, 0), (1, 0), (2, 0)), ((0, 0), (2, 0))))

    def test_the_order_of_the_refusals(self):
        inside, falling = ((0, 0), (1, 0)), ((-1, 0),)
        self.refused(BadRule((3,)), need_rule, (((0, 0),), inside, falling, None))
        self.refused(BadRule((2,)), need_rule, (((0, 0),), inside, falling))
        self.refused(BadRule(()), need_rule, (((0, 0),), inside, falling, None) * 16)

    def test_rule_of(self):
        self.assertEqual(rule_of(((((0, 0)),),)), STAY)
        self.assertEqual(rule_of(tuple(reversed(TWO))), TWO)
        self.assertEqual(rule_of(needs=(((1, 0),), ((0, 0),), ((1, 0),))), LEFT)
        self.assertEqual(rule_of((((0, 0), (1, 0)), ((1, 0),), ((1, 0), (2, 0)))), (((1, 0),),))
        self.assertEqual(rule_of((TWELVE, TWELVE[:11], TWELVE[1:])), (TWELVE[:11], TWELVE[1:]))
        self.assertEqual(rule_of((((0, 0),),) * 60), STAY)
        self.assertEqual(rule_of(tuple(reversed(SIXTY))), SIXTY)

    def test_rule_of_drawn_needs(self):
        for draw in drawings(200, 5):
            needs = tuple(drawn_places(draw, 1, 4, 1) for _ in range(draw.randint(1, 30)))
            self.assertEqual(rule_of(needs), least(needs))
            self.assertEqual(need_rule(rule_of(needs)), rule_of(needs))

    def test_rule_of_refuses(self):
        for needs in (None, [], [((0, 0),)], (), SIXTY + (((0, 0),),), (None,) * 61):
            self.refused(BadRule(()), rule_of, needs)
        for bad in NO_NEEDS:
            self.refused(BadRule((2,)), rule_of, (((0, 0),), ((0, 0),), bad, None))

    def test_every_parameter_is_checked(self):
        bad = (((1, 0),), ((0, 0),))
        self.refused(BadRule((1,)), stepped, bad, None)
        self.refused(BadRule((1,)), stepped_times, bad, None, None)
        for call, more in ((is_lesser, ()), (parting_island, ()), (is_parting, (None,))):
            self.refused(BadRule((1,)), call, bad, None, *more)
            self.refused(BadRule(()), call, TWO, None, *more)


class Steps(Case):

    def test_two(self):
        self.assertEqual(stepped(TWO, ((0, 0),)), ())
        self.assertEqual(stepped(TWO, ((0, 0), (1, 0))), ((0, 0),))
        self.assertEqual(stepped(TWO, box(2, 2)), ((0, 0), (0, 1), (1, 0)))
        self.assertEqual(stepped(rule=TWO, island=((0, 0), (9, 9), (10, 9))), ((9, 9),))
        self.assertEqual(stepped(TWO, ()), ())

    def test_left(self):
        self.assertEqual(stepped(LEFT, ((0, 0),)), ((-1, 0), (0, 0)))
        self.assertEqual(stepped(LEFT, ((-BIG, 5), (BIG, 5))),
                         ((-BIG - 1, 5), (-BIG, 5), (BIG - 1, 5), (BIG, 5)))

    def test_drawn_ones(self):
        for draw in drawings(300, 6):
            rule = drawn_rule(draw)
            island = drawn_island(draw, draw.choice((3, 12, 40)), 4)
            self.assertEqual(stepped(rule, island), tuple(sorted(step(rule, set(island)))))

    def test_needs_of_far_places(self):
        rule = least([((-20, 20), (20, -20)), ((-20, -20), (0, 0), (20, 20))])
        island = tuple(sorted(set(box(20, 20)[:200]) | set(shifted(box(20, 20)[:100], (40, -40)))))
        self.assertEqual(stepped(rule, island), tuple(sorted(step(rule, set(island)))))
        self.assertEqual(stepped(rule, ((-20, -20), (0, 0), (20, 20))), ((0, 0),))

    def test_more_marks_lead_to_as_many_at_least(self):
        for draw in drawings(100, 7):
            rule, island = drawn_rule(draw), drawn_island(draw)
            part = tuple(p for p in island if draw.random() < 0.5)
            self.assertLessEqual(set(stepped(rule, part)), set(stepped(rule, island)))

    def test_400_places_are_let(self):
        self.assertEqual(len(stepped(LEFT, ROW[:399])), 400)
        self.refused(TooGreat(400), stepped, LEFT, ROW)
        self.refused(TooGreat(400), stepped, SIXTY, box(20, 20))

    def test_islands_are_checked(self):
        self.refused(BadIsland(((1, 0), (0, 0))), stepped, TWO, ((1, 0), (0, 0)))
        self.refused(BadIsland([]), stepped_times, TWO, [], None)
        self.refused(BadIsland(((BIG + 1, 0),)), stepped, LEFT, ((BIG + 1, 0),))

    def test_stepped_times(self):
        island = box(3, 3)
        for times in range(6):
            self.assertEqual(stepped_times(rule=TWO, island=box(3, 3), times=times), island)
            island = stepped(TWO, island)
        self.assertEqual(island, ())
        self.assertEqual(stepped_times(LEFT, ((5, 5),), 60), tuple((k, 5) for k in range(-55, 6)))
        self.assertEqual(stepped_times((((1, 0),),), ((-BIG, 0),), 60), ((-BIG - 60, 0),))

    def test_times_are_checked_behind_the_rest(self):
        for times in (-1, 61, True, 1.0, "1", None):
            self.refused(BadParameter(times), stepped_times, LEFT, ROW, times)
        self.assertEqual(stepped_times(LEFT, ROW, 0), ROW)

    def test_400_places_are_let_behind_each_single_step(self):
        self.assertEqual(len(stepped_times(LEFT, box(340, 1), 60)), 400)
        self.refused(TooGreat(400), stepped_times, LEFT, box(341, 1), 60)
        self.assertEqual(len(stepped_times(LEFT, box(341, 1), 59)), 400)

    def test_more_than_400_places_only_on_the_way_are_refused_too(self):
        rule = (((0, -9), (1, -9)), ((0, 9), (1, 9)))
        island = tuple((100 * k + j, 0) for k in range(133) for j in range(3))
        first = step(rule, set(island))
        second = step(rule, first)
        self.assertEqual((len(first), len(second)), (532, 399))
        self.refused(TooGreat(400), stepped_times, rule, island, 2)
        few = island[:300]
        self.assertEqual(stepped_times(rule, few, 2), tuple(sorted(step(rule, step(rule, set(few))))))


class Parting(Case):

    def test_is_lesser(self):
        self.assertIs(is_lesser(TWO, TWO), True)
        self.assertIs(is_lesser((((0, 0), (1, 0)),), TWO), True)
        self.assertIs(is_lesser(one=TWO, other=(((0, 0), (1, 0)),)), False)
        self.assertIs(is_lesser(STAY, LEFT), True)
        self.assertIs(is_lesser(LEFT, STAY), False)
        self.assertIs(is_lesser(TWO, STAY), False)

    def test_the_least_of_all_needs_of_either_rule(self):
        self.assertEqual(parting_island(TWO, LEFT), ((0, 0),))
        self.assertEqual(parting_island(LEFT, TWO), ((0, 0),))
        self.assertEqual(parting_island(one=STAY, other=LEFT), ((1, 0),))
        self.assertEqual(parting_island(LEFT, STAY), ((1, 0),))
        # The least need of the first rule has all places of one of the second, and the other way round.
        one = (((0, 0), (0, 1)), ((5, 0),))
        other = (((0, 0),), ((5, 0), (6, 0)))
        self.assertEqual(parting_island(one, other), ((0, 0),))
        one = (((-3, 0), (0, 0)), ((5, 0),))
        self.assertEqual(parting_island(one, (((0, 0),), ((2, 0), (3, 0)))), ((0, 0),))
        self.assertEqual(parting_island((((-3, 0), (0, 0)), ((5, 0),)), (((-3, 0), (0, 0)), ((7, 0),))),
                         ((5, 0),))

    def test_the_same_rule(self):
        for rule in (TWO, LEFT, STAY, MANY):
            self.refused(NoRow(), parting_island, rule, rule)

    def test_drawn_ones(self):
        for draw in drawings(300, 8):
            one, other = [drawn_rule(draw, 3, 2, 1) for _ in range(2)]
            alone = [n for n in one if not any(set(m) <= set(n) for m in other)]
            apart = alone + [n for n in other if not any(set(m) <= set(n) for m in one)]
            self.assertIs(is_lesser(one, other), not alone)
            self.assertEqual(bool(apart), one != other)
            if not apart:
                self.assertEqual(outcome(parting_island, one, other), (NoRow, {}))
                continue
            island = parting_island(one, other)
            self.assertEqual(island, min(apart))
            self.assertNotEqual((0, 0) in stepped(one, island), (0, 0) in stepped(other, island))
            self.assertIs(is_parting(one, other, island), True)

    def test_lesser_rules_mark_nothing_more(self):
        for draw in drawings(200, 9):
            one, other = [drawn_rule(draw, 3, 2, 1) for _ in range(2)]
            island = drawn_island(draw, 9, 2)
            if is_lesser(one, other):
                self.assertLessEqual(set(stepped(one, island)), set(stepped(other, island)))

    def test_is_parting(self):
        self.assertIs(is_parting(TWO, LEFT, ((0, 0),)), True)
        self.assertIs(is_parting(one=TWO, other=LEFT, value=()), False)
        self.assertIs(is_parting(TWO, TWO, ((0, 0),)), False)
        # The steps are unlike, though not at (0, 0).
        self.assertIs(is_parting(STAY, (((1, 0),),), ((50, 50),)), True)
        self.assertIs(is_parting(TWO, (((0, 0), (0, 1)),), ((0, 0), (0, 1))), False)

    def test_is_parting_takes_values_of_any_kind(self):
        for value in ODD + (((1, 0), (0, 0)), ((BIG + 1, 0),), ROW + ((400, 0),), ((0, 0), (0, 0)), [(0, 0)]):
            self.assertIs(is_parting(TWO, LEFT, value), False)

    def test_is_parting_has_no_bound_for_steps(self):
        self.assertIs(is_parting(LEFT, STAY, ROW), True)
        self.assertIs(is_parting(LEFT, LEFT, ROW), False)
        self.assertIs(is_parting(LEFT, (((0, 0),), ((2, 0),)), ROW), True)


if __name__ == "__main__":
    unittest.main()
