"""[19] Fans put together, [20] never faster."""

import unittest

from allislands.errors import BadFan, BadParameter, BadPlace, BadRule, NoRow, TooGreat
from allislands.fans import faster_at, fan_least, fan_most, fan_moved, fan_of, fan_of_term, fan_sum, fan_times
from allislands.fans import fan_turned, fan_value, need_whole, never_faster
from allislands.rules import behind, both_marked, either_marked, is_lesser, moved_by
from allislands.speeds import term_speed
from tests.test_fans import HALF, LEFT_FAN, REFUSED, TWO_FAN, ZERO, bent
from tests.tools import AXES, FAN_34, FAN_60, FAN_61, LEFT, MOST, ODD, OFTEN, STAY, TWO, Case, all_ways
from tests.tools import drawings, drawn_rule, fan_at, form, cones, in_turn, is_fan_shaped
from tests.tools import outcome, plain, plain_fan, plain_speed, told_fan

# Two ranks the sum of whose fans has more than 60 directions.
TWELVE = ("rank", 6, ((-18, 5), (-15, -15), (-11, 16), (-7, -9), (-2, 18), (-1, -19), (3, 7), (6, -4), (11, 13),
                      (13, -13), (17, 1), (19, 9)))
CROSS = ((-19, -2), (-17, 11), (-9, -17), (-8, 3), (-4, 13), (0, -11), (2, 19), (5, -16), (9, 8), (14, -7), (16, 15),
         (18, -1))
PAIRED = (fan_most, fan_least, fan_sum)


def met_at(one, other):
    """The directions of both fans and those at which a form of each have one number."""
    found = [u for u, s in one + other]
    for f in {form(*pair) for pair in cones(one)}:
        for g in {form(*pair) for pair in cones(other)}:
            if f != g:
                x, y = g[1] - f[1], f[0] - g[0]
                many = x.denominator * y.denominator
                x, y = int(x * many), int(y * many)
                found += [(x, y), (-x, -y)]
    return in_turn(map(plain, found))


class TwoFans(Case):

    def test_examples(self):
        self.assertEqual(fan_most(TWO_FAN, LEFT_FAN), LEFT_FAN)
        self.assertEqual(fan_least(TWO_FAN, LEFT_FAN), TWO_FAN)
        # They change parts at (3, 1).
        one = (((1, 0), 0), ((1, 1), 1), ((0, 1), 0), ((-1, 0), 0), ((0, -1), 0))
        other = (((1, 0), 1), ((1, 1), -1), ((0, 1), 0), ((-1, 0), 0), ((0, -1), 0))
        self.assertEqual(fan_most(one, other)[:4], (((1, 0), 1), ((3, 1), 1), ((1, 1), 1), ((0, 1), 0)))
        self.assertEqual(fan_least(one, other)[:4], (((1, 0), 0), ((3, 1), 1), ((1, 1), -1), ((0, 1), 0)))
        self.assertEqual(fan_least(one=LEFT_FAN, other=ZERO), ZERO)
        self.assertEqual(fan_sum(one=LEFT_FAN, other=LEFT_FAN), tuple((u, 2 * s) for u, s in LEFT_FAN))
        self.assertEqual(fan_sum(TWO_FAN, fan_turned(TWO_FAN)),
                         (((1, 0), 0), ((1, 1), -2), ((0, 1), 0), ((-1, 0), 0), ((-1, -1), 2), ((0, -1), 0)))

    def test_direction_by_direction(self):
        for draw in drawings(80, 70):
            one, other = [fan_of(drawn_rule(draw, 5, 3, 3)) for _ in range(2)]
            ways = met_at(one, other)
            for call, better in ((fan_most, max), (fan_least, min), (fan_sum, lambda s, t: s + t)):
                made = call(one, other)
                self.assertEqual(need_whole(made), made)
                self.assertEqual(made, told_fan(lambda u: better(fan_at(one, u), fan_at(other, u)), ways))
                for u in all_ways(3):
                    wanted = better(fan_at(one, u), fan_at(other, u))
                    self.assertEqual(fan_value(made, u), (wanted.numerator, 1))

    def test_rules_put_together(self):
        for draw in drawings(60, 71):
            one, other = [drawn_rule(draw, 3, 3, 2) for _ in range(2)]
            for call, join in ((fan_most, either_marked), (fan_least, both_marked), (fan_sum, behind)):
                made = outcome(join, one, other)
                if made != REFUSED:
                    self.assertEqual(call(fan_of(one), fan_of(other)), plain_fan(made))

    def test_great_numbers(self):
        high = (((1, 0), MOST), ((0, 1), MOST), ((-1, 0), -MOST), ((0, -1), -MOST))
        low = (((1, 0), -MOST), ((0, 1), MOST - 1), ((-1, 0), MOST), ((0, -1), 1 - MOST))
        made = fan_most(high, low)
        self.assertEqual(made, told_fan(lambda u: max(fan_at(high, u), fan_at(low, u)), met_at(high, low)))
        # The bend is at a direction that no parameter may have.
        self.assertIn((1, -2 * MOST), dict(made))
        self.refused(BadFan(made), need_whole, made)
        self.assertEqual(dict(fan_sum(high, high))[(1, 0)], 2 * MOST)

    def test_more_than_60(self):
        one = bent(60)
        for call in PAIRED:
            self.assertEqual(call(one, one), one if call is not fan_sum else tuple((u, 2 * s) for u, s in one))
        other = told_fan(lambda u: 0 if u != (-1, 1) else 1, AXES + ((-1, 1),))
        self.refused(TooGreat(60), fan_sum, one, other)
        high = told_fan(lambda u: 0 if u != (-1, 1) else 9, AXES + ((-1, 1),))
        low = told_fan(lambda u: 10 if u != (-1, 1) else -9, AXES + ((-1, 1),))
        for call, met in ((fan_most, high), (fan_least, low)):
            self.refused(TooGreat(60), call, one, met)
            self.refused(TooGreat(60), call, met, one)
            self.assertEqual(len(call(bent(50), met)), 52 if call is fan_most else 53)
        self.assertEqual(fan_least(one, tuple((u, -9) for u in AXES)), tuple((u, -9) for u in AXES))
        # Bends that come to nothing are not counted.
        self.assertEqual(fan_sum(bent(60), tuple((u, -s) for u, s in bent(60))), ZERO)
        self.assertEqual(len(fan_sum(bent(59), other)), 60)

    def test_which_is_refused_first(self):
        long, wrong = (None,) * 61, ZERO[:3]
        for call in PAIRED:
            self.refused(BadFan(HALF), call, HALF, HALF)
            self.refused(BadFan(HALF), call, ZERO, HALF)
            self.refused(BadFan(HALF), call, HALF, long)
            self.refused(BadFan(wrong), call, wrong, None)
            self.refused(BadFan(None), call, ZERO, None)
            self.refused(TooGreat(60), call, long, None)
            self.refused(TooGreat(60), call, ZERO, long)
            for odd in ODD:
                self.refused(BadFan(odd), call, odd, long)
                self.refused(BadFan(odd), call, LEFT_FAN, odd)


class OneFan(Case):

    def test_turned(self):
        self.assertEqual(fan_turned(LEFT_FAN), (((1, 0), -1), ((0, 1), 0), ((-1, 0), 0), ((0, -1), 0)))
        self.assertEqual(fan_turned(fan=TWO_FAN), TWO_FAN)
        for draw in drawings(60, 72):
            fan = fan_of(drawn_rule(draw, 5, 3, 3))
            made = fan_turned(fan)
            self.assertEqual(need_whole(made), made)
            self.assertEqual(fan_turned(made), fan)
            for u in all_ways(3):
                self.assertEqual(fan_at(made, u), -fan_at(fan, (-u[0], -u[1])))

    def test_times(self):
        self.assertEqual(fan_times(TWO_FAN, 0), ZERO)
        self.assertEqual(fan_times(TWO_FAN, 1), TWO_FAN)
        self.assertEqual(fan_times(fan=TWO_FAN, times=OFTEN), tuple((u, s * OFTEN) for u, s in TWO_FAN))
        self.assertEqual(fan_times(bent(60), OFTEN), tuple((u, s * OFTEN) for u, s in bent(60)))
        for times in (OFTEN + 1, -1, True, False, 1.0, None, "1", (1,)):
            self.refused(BadParameter(times), fan_times, TWO_FAN, times)

    def test_moved(self):
        for draw in drawings(40, 73):
            rule = drawn_rule(draw, 5, 3, 3)
            place = (draw.randint(-9, 9), draw.randint(-9, 9))
            made = fan_moved(fan=fan_of(rule), place=place)
            self.assertEqual(made, plain_fan(moved_by(rule, place)))
        far = (10 ** 9, -10 ** 9)
        self.assertEqual(fan_moved(ZERO, far), (((1, 0), far[0]), ((0, 1), far[1]), ((-1, 0), -far[0]), ((0, -1), -far[1])))
        for place in ((10 ** 9 + 1, 0), (0, True), [0, 0], None, (0, 0, 0)):
            self.refused(BadPlace(place), fan_moved, ZERO, place)

    def test_fans_that_are_none(self):
        for odd in ODD + (HALF, ZERO[1:]):
            self.refused(BadFan(odd), fan_turned, odd)
            self.refused(BadFan(odd), fan_times, odd, None)
            self.refused(BadFan(odd), fan_moved, odd, None)
        self.refused(TooGreat(60), fan_turned, (None,) * 61)
        self.refused(TooGreat(60), fan_times, (None,) * 61, None)
        self.refused(TooGreat(60), fan_moved, (None,) * 61, None)


class TermsRefused(Case):

    def test_many_directions_by_parts(self):
        twelve, other = TWELVE, ("rank", 6, CROSS)
        ones, others = fan_of_term(twelve), fan_of_term(other)
        self.assertTrue(is_fan_shaped(ones) and is_fan_shaped(others))
        for word, call in (("then", fan_sum), ("most", fan_most), ("least", fan_least)):
            term = (word, twelve, other) if word == "then" else (word, (twelve, other))
            made = outcome(fan_of_term, term)
            self.assertEqual(made, outcome(call, ones, others))
            if made == REFUSED:
                # Nothing that comes behind makes it good again.
                self.refused(TooGreat(60), fan_of_term, ("again", term, 0))
                self.refused(TooGreat(60), fan_of_term, ("most", (term, ("at", (20, 20)))))
            else:
                for u in all_ways(3):
                    self.assertEqual(fan_value(made, u), (term_speed(term, u), 1))
        self.assertEqual(outcome(fan_of_term, ("then", twelve, other)), REFUSED)

    def test_from_within(self):
        # The second and the third one add up to nothing, so the brackets tell what comes.
        ways = tuple(("rank", 6, tuple(sorted((k * x, k * y) for x, y in CROSS))) for k in (1, -1))
        one, other, back = TWELVE, ways[0], ("turned", ways[1])
        self.assertEqual(fan_of_term(("then", other, back)), ZERO)
        self.assertEqual(fan_of_term(("then", one, ("then", other, back))), fan_of_term(one))
        self.refused(TooGreat(60), fan_of_term, ("then", ("then", one, other), back))


class NeverFaster(Case):

    def test_examples(self):
        self.assertIs(never_faster(TWO, STAY), False)
        self.assertIs(never_faster(STAY, TWO), False)
        self.assertEqual(faster_at(TWO, STAY), (-1, -1))
        self.assertEqual(faster_at(one=STAY, other=TWO), (1, 1))
        self.assertIs(never_faster(one=STAY, other=LEFT), True)
        self.assertIs(never_faster(LEFT, LEFT), True)
        self.assertEqual(faster_at(LEFT, STAY), (-1, 0))
        self.refused(NoRow(), faster_at, STAY, LEFT)
        self.refused(NoRow(), faster_at, TWO, TWO)

    def test_drawn_ones(self):
        seen = set()
        for draw in drawings(250, 74):
            one, other = drawn_rule(draw, 3, 3, 2), drawn_rule(draw, 5, 2, 2)
            ways = in_turn([u for u, s in plain_fan(one) + plain_fan(other)])
            found = [u for u in ways if plain_speed(one, u) > plain_speed(other, u)]
            every = all(plain_speed(one, u) <= plain_speed(other, u) for u in all_ways(5))
            self.assertEqual(not found, every)
            self.assertIs(never_faster(one, other), every)
            self.assertEqual(outcome(faster_at, one, other), found[0] if found else (NoRow, {}))
            seen.add((every, bool(found) and found[0] in dict(plain_fan(one)), bool(found) and found[0] in dict(plain_fan(other))))
        self.assertEqual(seen, {(True, False, False), (False, True, True), (False, True, False), (False, False, True)})

    def test_a_lesser_rule_is_never_faster(self):
        done, parted = 0, 0
        for draw in drawings(200, 75):
            one, other = drawn_rule(draw, 2, 3, 1), drawn_rule(draw, 3, 2, 1)
            if is_lesser(one, other):
                done += 1
                self.assertIs(never_faster(one, other), True)
            elif never_faster(one, other):
                parted += 1
        self.assertTrue(done > 5 and parted > 5)
        # The middle one of three in a row is faster nowhere, but marks what lies apart.
        self.assertIs(never_faster((((-1, 0), (1, 0)),), STAY), True)
        self.assertIs(is_lesser((((-1, 0), (1, 0)),), STAY), False)

    def test_refusals_in_order(self):
        for call in (never_faster, faster_at):
            self.refused(BadRule(()), call, None, FAN_61)
            self.refused(BadRule(()), call, FAN_61, None)
            self.refused(BadRule((0,)), call, FAN_61, (None,))
            self.refused(TooGreat(60), call, FAN_61, STAY)
            self.refused(TooGreat(60), call, STAY, FAN_34)
            self.refused(TooGreat(60), call, FAN_34, FAN_61)
        self.assertIs(never_faster(FAN_60, FAN_60), True)


if __name__ == "__main__":
    unittest.main()
