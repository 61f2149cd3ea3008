"""[18] Fans as values, the fans of rules and terms."""

import unittest
from fractions import Fraction

from allislands.errors import BadDirection, BadFan, BadRule, BadTerm, TooGreat
from allislands.fans import fan_of, fan_of_term, fan_value, forms, need_fan, need_whole
from allislands.rules import need_rule, rule_of
from allislands.speeds import speed, term_speed
from allislands.termwork import plain_term, term_rule
from tests.tools import AXES, FAN_34, FAN_60, FAN_61, FAR, LEFT, MOST, ODD, STAY, TWO, Case, all_ways, cones, drawings
from tests.tools import drawn_places, drawn_rule, drawn_term, drawn_way, fan_at, form, in_turn, is_fan_shaped, outcome
from tests.tools import plain_fan, told_fan

REFUSED = (TooGreat, {"most": 60})
TWO_FAN = (((1, 0), 0), ((1, 1), -1), ((0, 1), 0), ((-1, 0), 0), ((-1, -1), 1), ((0, -1), 0))
LEFT_FAN = (((1, 0), 0), ((0, 1), 0), ((-1, 0), 1), ((0, -1), 0))
ZERO = tuple((u, 0) for u in AXES)
# Between (1, 0) and (1, 2) it is half of the second number: not whole.
HALF = (((1, 0), 0), ((1, 2), 1), ((0, 1), 0), ((-1, 0), 0), ((0, -1), 0))


def bent(many):
    """A whole fan of so many directions: the axes and (1, K), turn by turn with 1 and 0."""
    ways = [(1, k) for k in range(1, many - 3)]
    return ZERO[:1] + tuple((u, k % 2) for k, u in enumerate(ways)) + (((0, 1), 5),) + ZERO[2:]


def drawn_fan(draw, many=6, size=4, most=5):
    """A fan, mostly not whole, with some drawn directions as bends."""
    ways = draw.sample(all_ways(size), many)
    values = {u: draw.randint(-most, most) for u in in_turn(ways + list(AXES))}
    return told_fan(values.get, values)


class NeedFan(Case):

    def test_fans(self):
        for fan in (TWO_FAN, LEFT_FAN, ZERO, HALF, bent(60), bent(5)):
            self.assertIs(need_fan(fan), fan)
        for draw in drawings(60, 60):
            fan = drawn_fan(draw)
            self.assertIs(need_fan(value_of_copy := tuple(fan)), value_of_copy)
            self.assertIs(need_fan(fan=fan), fan)

    def test_bounds(self):
        for s in (MOST, -MOST):
            fan = (((1, 0), s),) + ZERO[1:]
            self.assertIs(need_fan(fan), fan)
            self.refused(BadFan(told := (((1, 0), s + s // MOST),) + ZERO[1:]), need_fan, told)
        for far in ((1, FAR), (1, FAR + 1), (FAR, 1), (FAR + 1, 1)):
            fan = ZERO[:1] + ((far, 1),) + ZERO[1:]
            if max(far) == FAR:
                self.assertIs(need_fan(fan), fan)
            else:
                self.refused(BadFan(fan), need_fan, fan)

    def test_too_many(self):
        self.assertEqual(len(bent(60)), 60)
        for call in (need_fan, need_whole):
            self.assertEqual(call(bent(60)), bent(60))
            self.refused(TooGreat(60), call, bent(61))
            self.refused(TooGreat(60), call, (None,) * 61)
            self.refused(BadFan([None] * 61), call, [None] * 61)
            self.refused(BadFan((None,) * 60), call, (None,) * 60)

    def test_not_in_form(self):
        wrong = [TWO_FAN[:k] + TWO_FAN[k + 1:] for k in (0, 2, 3, 5)]
        wrong += [TWO_FAN[:k] + (TWO_FAN[k],) + TWO_FAN[k:] for k in range(6)]
        wrong += [TWO_FAN[:k - 1] + (TWO_FAN[k], TWO_FAN[k - 1]) + TWO_FAN[k + 1:] for k in range(1, 6)]
        wrong += [TWO_FAN[1:] + TWO_FAN[:1], TWO_FAN[::-1], (), ZERO[:3], ZERO[1:]]
        wrong += [TWO_FAN[:1] + (((2, 2), -2),) + TWO_FAN[2:], TWO_FAN[:1] + (((0, 0), 0),) + TWO_FAN[1:]]
        # Directions that are no bends.
        wrong += [ZERO[:1] + (((1, 1), 0),) + ZERO[1:], TWO_FAN[:1] + (((2, 1), -1),) + TWO_FAN[1:]]
        wrong += [TWO_FAN[:2] + (((1, 2), -1),) + TWO_FAN[2:], TWO_FAN + (((1, -1), 0),)]
        wrong += [list(TWO_FAN), TWO_FAN[:1] + ([(1, 1), -1],) + TWO_FAN[2:], TWO_FAN[:1] + (([1, 1], -1),) + TWO_FAN[2:]]
        wrong += [(((1, 0), bad),) + ZERO[1:] for bad in (True, False, 1.0, None, "0", (0,))]
        wrong += [(((1, 0), 0, 0),) + ZERO[1:], (((True, 0), 0),) + ZERO[1:], (((1, False), 0),) + ZERO[1:]]
        wrong += [(((1.0, 0), 0),) + ZERO[1:], (((1, 0, 0), 0),) + ZERO[1:], (((1, 0),),) + ZERO[1:]]
        for fan in wrong + list(ODD) + [ZERO + (each,) for each in ODD]:
            for call in (need_fan, need_whole, forms):
                self.refused(BadFan(fan), call, fan)
            self.refused(BadFan(fan), fan_value, fan, None)

    def test_whole_or_not(self):
        for fan in (TWO_FAN, LEFT_FAN, ZERO, bent(60)):
            self.assertIs(need_whole(fan=fan), fan)
        self.refused(BadFan(HALF), need_whole, HALF)
        kinds = set()
        for draw in drawings(150, 61):
            fan = drawn_fan(draw, 2, 2)
            whole = all(n.denominator == 1 for pair in cones(fan) for n in form(*pair))
            kinds.add(whole)
            self.assertEqual(outcome(need_whole, fan), fan if whole else (BadFan, {"value": fan}))
        self.assertEqual(kinds, {True, False})


class Values(Case):

    def test_examples(self):
        self.assertEqual(fan_value(HALF, (1, 1)), (1, 2))
        self.assertEqual(fan_value(fan=HALF, direction=(3, 3)), (3, 2))
        self.assertEqual(fan_value(HALF, (4, 2)), (1, 1))
        self.assertEqual(fan_value(HALF, (1, 3)), (1, 1))
        self.assertEqual(fan_value(LEFT_FAN, (-FAR, FAR)), (FAR, 1))
        self.assertEqual(forms(HALF), (((0, 1), (1, 2)), ((1, 1), (0, 1)), ((0, 1), (0, 1)), ((0, 1), (0, 1)), ((0, 1), (0, 1))))
        self.assertEqual(forms(fan=LEFT_FAN), (((0, 1), (0, 1)), ((-1, 1), (0, 1)), ((-1, 1), (0, 1)), ((0, 1), (0, 1))))
        self.assertEqual(fan_value((((1, 0), MOST),) + ZERO[1:], (FAR, FAR)), (FAR * MOST, 1))

    def test_between_the_directions(self):
        for draw in drawings(30, 62):
            fan = drawn_fan(draw)
            told = forms(fan)
            for k, pair in enumerate(cones(fan)):
                self.assertEqual(tuple(Fraction(*n) for n in told[k]), form(*pair))
                self.assertEqual(told[k], tuple((n.numerator, n.denominator) for n in form(*pair)))
            for u in all_ways(3) + ((2, 4), (-6, 0), (FAR, -FAR + 1), (-FAR, -FAR)):
                wanted = fan_at(fan, u)
                self.assertEqual(fan_value(fan, u), (wanted.numerator, wanted.denominator))

    def test_order_of_parameters(self):
        self.refused(TooGreat(60), fan_value, bent(61), (0, 0))
        for u in ((0, 0), (FAR + 1, 0), (0, -FAR - 1), None, [1, 0], (True, 1), (1,)):
            self.refused(BadDirection(u), fan_value, HALF, u)


class FanOf(Case):

    def test_examples(self):
        self.assertEqual(fan_of(TWO), TWO_FAN)
        self.assertEqual(fan_of(rule=LEFT), LEFT_FAN)
        self.assertEqual(fan_of(STAY), ZERO)
        self.assertEqual(fan_of_term(("rank", 2, ((0, 0), (0, 1), (1, 0)))), TWO_FAN)
        self.assertEqual(fan_of_term(term=("most", (("at", (0, 0)), ("at", (1, 0))))), LEFT_FAN)

    def test_rules_at_all_plain_directions(self):
        for draw in drawings(150, 63):
            rule = drawn_rule(draw, 6, 4, 3)
            fan = fan_of(rule)
            self.assertEqual(fan, plain_fan(rule))
            self.assertEqual(need_whole(fan), fan)
            self.assertTrue(is_fan_shaped(fan))
            for u in all_ways(4) + tuple((draw.randint(-FAR, FAR), draw.choice((-FAR, 1, FAR))) for _ in range(5)):
                self.assertEqual(fan_value(fan, u), (speed(rule, u), 1))

    def test_great_rules(self):
        done = 0
        for draw in drawings(20, 64):
            rule = rule_of(tuple(drawn_places(draw, 1, 12, 20) for _ in range(draw.randint(5, 60))))
            fan = outcome(fan_of, rule)
            if fan != REFUSED:
                done += 1
                self.assertTrue(is_fan_shaped(fan))
                for u in all_ways(3) + tuple(drawn_way(draw, FAR) for _ in range(20)):
                    self.assertEqual(fan_value(fan, u), (speed(rule, u), 1))
        self.assertGreater(done, 15)

    def test_terms_at_all_plain_directions(self):
        done = 0
        for draw in drawings(200, 65):
            term = drawn_term(draw, 3, 4)
            fan = outcome(fan_of_term, term)
            if fan != REFUSED:
                done += 1
                self.assertTrue(is_fan_shaped(fan))
                for u in all_ways(3) + tuple(drawn_way(draw, FAR) for _ in range(4)):
                    self.assertEqual(fan_value(fan, u), (term_speed(term, u), 1))
                rule = outcome(term_rule, term)
                if rule[0] is not TooGreat and outcome(need_rule, rule) == rule:
                    self.assertEqual(fan_of(rule), fan)
        self.assertGreater(done, 150)

    def test_terms_of_great_rules(self):
        for draw in drawings(40, 66):
            rule = drawn_rule(draw, 4, 3, 20)
            if sum(len(need) + 1 for need in rule) < 20:
                self.assertEqual(fan_of_term(plain_term(rule)), fan_of(rule))

    def test_ranks(self):
        for draw in drawings(12, 67):
            places = drawn_places(draw, 3, 8, 6)
            for k in range(1, len(places) + 1):
                fan = fan_of_term(("rank", k, places))
                self.assertTrue(is_fan_shaped(fan))
                for u in all_ways(3):
                    wanted = sorted((-u[0] * x - u[1] * y for x, y in places), reverse=True)[k - 1]
                    self.assertEqual(fan_value(fan, u), (wanted, 1))
        # All twelve in one row change parts at two directions only.
        row = tuple((k, k) for k in range(12))
        self.assertEqual([u for u, s in fan_of_term(("rank", 4, row))],
                         [(1, 0), (0, 1), (-1, 1), (-1, 0), (0, -1), (1, -1)])

    def test_often(self):
        term = ("again", ("again", ("most", (("at", (3, 1)), ("at", (0, 0)))), 10 ** 30), 10 ** 30)
        fan = fan_of_term(term)
        self.assertEqual(fan, tuple((u, s * 10 ** 60) for u, s in fan_of((((0, 0),), ((3, 1),)))))
        self.assertEqual(dict(fan)[(-1, 0)], 3 * 10 ** 60)
        self.assertEqual(fan_of_term(("again", ("rank", 2, ((0, 0), (0, 1), (1, 0))), 0)), ZERO)
        self.assertEqual(fan_of_term(("turned", ("most", (("at", (1, 0)), ("at", (0, 0)))))),
                         tuple((u, s) for u, s in (((1, 0), -1), ((0, 1), 0), ((-1, 0), 0), ((0, -1), 0))))

    def test_parameters(self):
        for rule in (None, (), [((0, 0),)]):
            self.refused(BadRule(()), fan_of, rule)
        self.refused(BadRule((1,)), fan_of, (((1, 0),), ((0, 0),)))
        self.refused(BadTerm(()), fan_of_term, None)
        self.refused(BadTerm((0,)), fan_of_term, ("turned", ("at", (21, 0))))


class TooManyDirections(Case):

    def test_rules(self):
        self.assertEqual([len(plain_fan(rule)) for rule in (FAN_60, FAN_61, FAN_34)], [60, 61, 34])
        self.assertEqual(fan_of(FAN_60), plain_fan(FAN_60))
        self.assertEqual(need_fan(fan_of(FAN_60)), fan_of(FAN_60))
        self.refused(TooGreat(60), fan_of, FAN_61)
        self.refused(TooGreat(60), fan_of, FAN_34)
        # Turned about, the need that comes first keeps the fan small from the first to the last one.
        about = tuple(sorted(tuple((-x, -y) for x, y in need[::-1]) for need in FAN_34))
        self.assertEqual(about[0], ((-20, -20),))
        self.assertEqual(fan_of(about), plain_fan(about))
        self.assertEqual(len(fan_of(about)), 34)


if __name__ == "__main__":
    unittest.main()
