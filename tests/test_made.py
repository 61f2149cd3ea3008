"""[21], [22] Rules made from fans, and from the corners of cores."""

import itertools
import math
import unittest
from fractions import Fraction

from allislands.cores import core, fan_core
from allislands.errors import BadFan, BadParameter, BadPoint, NoRow, TooGreat, Unlike
from allislands.fans import fan_of, need_whole
from allislands.made import core_fan, core_rule, fan_rule, is_core_rule, is_whole, refined
from allislands.rules import moved_by, need_rule
from tests.test_fans import HALF, LEFT_FAN, REFUSED, TWO_FAN, ZERO, bent, drawn_fan
from tests.tools import AXES, FAN_60, FAN_61, FOUR, LEFT, MOST, ODD, STAY, TWO, TWO_OF_FOUR, Case, across, cones
from tests.tools import all_ways, drawings, drawn_point, drawn_rule, fan_at, form, fraction_point, hull, in_turn, is_fan_shaped
from tests.tools import outcome, plain, plain_corners, plain_fan, told_fan, told_point

LONG = tuple((None,) for _ in range(61))


# Values at (1, 0), (1, 1), .. (1, 56), then at (0, 1), (-1, 0), (0, -1): fans by which 60 needs are kept, 61 needs, and
# 60 needs at last but 61 ahead of that.
KEPT_60 = (17, -77, -59, 52, -24, 88, 80, -24, -39, 46, -117, 32, -218, -33, 205, -62, -88, 183, -7, 195, 19, -80, 29, 26,
           28, -105, 9, -304, -215, -108, 11, 27, 171, -69, -58, 40, -35, -44, -38, 26, -55, -17, -56, -87, -1, -65, -62,
           -100, 245, 33, -44, -78, -3, -10, 40, 205, -57, -20, -3, 0)
KEPT_61 = (14, -77, -60, 52, -24, 88, -13, 6, -39, -51, -17, 35, -88, -33, 208, -62, -88, 183, 0, 225, 6, -79, 29, 26, 28,
           -95, 7, -304, -215, -107, 8, 27, 171, -69, -58, 30, -32, -44, -41, 256, -41, -17, -59, -77, -2, -65, -62, -100,
           245, 21, -44, -78, -2, -109, 40, 205, -57, -19, -4, 0)
KEPT_61_THEN_60 = (-5, -77, -60, 52, -20, 88, -13, 106, -39, -51, -18, 36, -88, -31, 78, -62, -88, 182, -4, 158, -94, -49,
                   29, 26, 28, -55, 17, -305, -212, -107, 18, 17, 171, -69, -59, 30, -32, -41, -8, 323, 56, -14, -59, -78,
                   -2, -68, -92, -96, 116, 8, -34, -78, 28, -109, 43, 205, -157, -16, -4, 0)


def steep_fan(values):
    ways = [(1, k) for k in range(len(values) - 3)] + [(0, 1), (-1, 0), (0, -1)]
    return told_fan(dict(zip(ways, values)).get, ways)


def whole_forms(fan):
    return [tuple(int(n) for n in form(*pair)) for pair in cones(fan)]


def plain_refined(fan):
    """All directions of a whole fan, and those at which two of its forms have one number."""
    apart = {plain((b - d, c - a)) for (a, b), (c, d) in itertools.permutations(set(whole_forms(fan)), 2)}
    return in_turn(apart | {u for u, s in fan})


def plain_rule(fan):
    """The needs that a whole fan tells, cone by cone, and the most that are kept at any time."""
    found, kept, most = sorted(set(whole_forms(fan))), [], 0
    for p, q in cones(plain_refined(fan)):
        w = (p[0] + q[0], p[1] + q[1])
        value = fan_at(fan, w)
        need = {(-x, -y) for x, y in found if w[0] * x + w[1] * y >= value}
        if not any(other <= need for other in kept):
            kept = [other for other in kept if not need <= other] + [need]
            most = max(most, len(kept))
    return tuple(sorted(tuple(sorted(need)) for need in kept)), most


def plain_marked(points):
    """The marked directions of corners, as the document tells them, and the first side that is not whole."""
    met = [fraction_point(point) for point in points]
    if len(points) > 1:
        sides = list(zip(met, met[1:] + met[:1]))[:1 if len(met) == 2 else None]
        ways = []
        for p, q in sides:
            step = told_point(q[0] - p[0], q[1] - p[1])
            ways.append(plain((step[1], -step[0])))
            if (ways[-1][0] * p[0] + ways[-1][1] * p[1]).denominator > 1:
                return ways[-1], None
    else:
        u = plain((-points[0][1], points[0][0]))
        ways = [max(u, (-u[0], -u[1]))]
    if len(points) > 2:
        return None, ways
    u = ways[0]
    ways.append((-u[0], -u[1]))
    for x, sign in ((met[-1], 1), (met[0], -1)):
        w = far_way(u, sign)
        q = next(q for q in itertools.count(1) if (q * (w[0] * x[0] + w[1] * x[1])).denominator == 1)
        ways += [(q * w[0] + u[0], q * w[1] + u[1]), (q * w[0] - u[0], q * w[1] - u[1])]
    return None, ways


def far_way(u, sign):
    """The direction W with U crossed with W being the sign and <U, W> from 0 to less than <U, U>."""
    size = u[0] * u[0] + u[1] * u[1]
    for dotted in range(size):
        # <U, W> and U crossed with W tell W.
        a, b = u[0] * dotted - u[1] * sign, u[1] * dotted + u[0] * sign
        if a % size == 0 and b % size == 0:
            return (a // size, b // size)
    raise AssertionError(u)


def plain_core_fan(points):
    """The fan of corners in the document's words; an Unlike's direction, or None if too many stand."""
    if len(points) == 1 and points[0][2] == 1:
        return tuple((u, u[0] * points[0][0] + u[1] * points[0][1]) for u in AXES)
    wrong, ways = plain_marked(points)
    if wrong:
        return wrong
    ways = list(in_turn(ways + list(AXES)))
    at = 0
    while at < len(ways):
        u, v = ways[at], ways[(at + 1) % len(ways)]
        k = across(u, v)
        if k > 1:
            j, = [j for j in range(1, k) if (v[0] + j * u[0]) % k == 0 and (v[1] + j * u[1]) % k == 0]
            ways.insert(at + 1, ((v[0] + j * u[0]) // k, (v[1] + j * u[1]) // k))
            if len(ways) > 60:
                return None
        at += 1
    met = [fraction_point(point) for point in points]
    return told_fan(lambda u: max(math.ceil(u[0] * x + u[1] * y) for x, y in met), ways)


def drawn_corners(draw, most=4, size=3, parts=4):
    points = [fraction_point(drawn_point(draw, size, parts)) for _ in range(draw.randint(1, most))]
    return tuple(told_point(x, y) for x, y in hull(points))


class Whole(Case):

    def test_is_whole(self):
        for fan in (TWO_FAN, LEFT_FAN, ZERO, bent(60)):
            self.assertIs(is_whole(fan), True)
        self.assertIs(is_whole(fan=HALF), False)
        for draw in drawings(100, 100):
            fan = drawn_fan(draw, 2, 2)
            self.assertIs(is_whole(fan), all(n.denominator == 1 for pair in cones(fan) for n in form(*pair)))

    def test_fans_that_are_none(self):
        for call in (is_whole, refined, fan_rule):
            for odd in ODD + (ZERO[1:], ZERO[:1] + (((1, 1), 0),) + ZERO[1:]):
                self.refused(BadFan(odd), call, odd)
            self.refused(TooGreat(60), call, LONG)
            self.refused(BadFan(LONG[:60]), call, LONG[:60])

    def test_the_first_neighbours_that_are_not_whole(self):
        for call in (refined, fan_rule):
            self.refused(Unlike(((1, 0), (1, 2))), call, HALF)
            last = ZERO + (((1, -2), 1),)
            self.refused(Unlike(((1, -2), (1, 0))), call, last)
            both = ZERO[:2] + (((-2, 1), 1),) + ZERO[2:] + last[4:]
            self.refused(Unlike(((0, 1), (-2, 1))), call, both)
        seen = set()
        for draw in drawings(150, 101):
            fan = drawn_fan(draw, draw.randint(1, 4), 2, 2)
            wrong = [k for k, pair in enumerate(cones(fan)) if any(n.denominator > 1 for n in form(*pair))]
            if wrong:
                p, q = cones(fan)[wrong[0]]
                seen.add(wrong[0] == len(fan) - 1)
                for call in (refined, fan_rule):
                    self.refused(Unlike((p[0], q[0])), call, fan)
        self.assertEqual(seen, {True, False})


class Refined(Case):

    def test_examples(self):
        self.assertEqual(refined(TWO_FAN), tuple(u for u, s in TWO_FAN))
        self.assertEqual(refined(fan=LEFT_FAN), AXES)
        # (1, 1) is a bend of the one, its opposite is not, but both forms have one number there.
        fan = ZERO[:1] + (((1, 1), 1),) + ZERO[1:]
        self.assertEqual(refined(fan), in_turn([*AXES, (1, 1), (-1, -1)]))

    def test_drawn_ones(self):
        for draw in drawings(120, 102):
            fan = fan_of(drawn_rule(draw, 5, 3, 3))
            self.assertEqual(refined(fan), plain_refined(fan))

    def test_more_than_400(self):
        sizes = set()
        for k in range(8, 13):
            fan = fan_of(FAN_60[:k])
            many = len(plain_refined(fan))
            sizes.add(many > 400)
            self.assertEqual(outcome(refined, fan), plain_refined(fan) if many <= 400 else (TooGreat, {"most": 400}))
        self.assertEqual(sizes, {True, False})
        good = steep_fan((7, 6, 4, 1, -1, -6, -3, -3, -8, 3, 3, -4, 4, 7, -3, -4, -2, 9, 7, -2, -8, 3, -5, 5))
        great = steep_fan((-3, -5, -9, -1, -4, -6, -3, 6, 4, -9, -7, -8, 6, -8, -5, 4, -7, -9, 6, 7, 7, -7, 6))
        self.assertEqual((len(plain_refined(good)), len(plain_refined(great))), (400, 402))
        self.assertEqual(refined(good), plain_refined(good))
        self.refused(TooGreat(400), refined, great)
        self.assertEqual(fan_rule(great), plain_rule(great)[0])


class FanRule(Case):

    def test_examples(self):
        self.assertEqual(fan_rule(TWO_FAN), TWO)
        self.assertEqual(fan_rule(fan=LEFT_FAN), LEFT)
        self.assertEqual(fan_rule(ZERO), STAY)
        self.assertEqual(fan_rule(tuple((u, 5 * u[0] - 7 * u[1]) for u in AXES)), (((-5, 7),),))
        # The middle one of three in a row is as fast as a mark that stays: for both it is the same rule.
        self.assertEqual(fan_rule(fan_of((((-1, 0), (0, 0)), ((-1, 0), (1, 0)), ((0, 0), (1, 0))))), STAY)

    def test_drawn_ones(self):
        for draw in drawings(120, 104):
            rule = drawn_rule(draw, 5, 3, 3)
            fan = fan_of(rule)
            made = fan_rule(fan)
            self.assertEqual(made, plain_rule(fan)[0])
            self.assertEqual(plain_fan(made), fan)
            if outcome(need_rule, made) == made:
                self.assertEqual(fan_rule(fan_of(made)), made)

    def test_places_are_not_bounded(self):
        fan = tuple((u, MOST * u[0] + u[1]) for u in AXES)
        self.assertEqual(fan_rule(fan), (((-MOST, -1),),))

    def test_more_than_60_needs(self):
        for values, many, most in ((KEPT_60, 60, 60), (KEPT_61, 61, 61), (KEPT_61_THEN_60, 60, 61)):
            fan = steep_fan(values)
            needs, kept = plain_rule(fan)
            self.assertEqual((len(needs), kept), (many, most))
            self.assertEqual(outcome(fan_rule, fan), needs if most == 60 else REFUSED)
        for fan in (fan_of(FAN_60), bent(60), bent(12)):
            self.assertEqual(fan_rule(fan), plain_rule(fan)[0])


class CoreFan(Case):

    def test_examples(self):
        wanted = (((1, 0), 1), ((2, 1), 1), ((1, 1), 1), ((0, 1), 0), ((-1, 0), 0), ((0, -1), 0), ((1, -1), 1), ((2, -1), 1))
        self.assertEqual(core_fan(((0, 0, 1), (1, 0, 2))), wanted)
        self.assertEqual(core_fan(points=((3, -2, 1),)), (((1, 0), 3), ((0, 1), -2), ((-1, 0), -3), ((0, -1), 2)))
        self.assertEqual(core_fan(core(FOUR)), fan_of(FOUR))

    def test_drawn_ones(self):
        kinds = {}
        for draw in drawings(700, 105):
            points = drawn_corners(draw)
            wanted, made = plain_core_fan(points), outcome(core_fan, points)
            kind = (min(3, len(points)), "refused" if wanted is None else "unlike" if isinstance(wanted[0], int) else "made")
            kinds[kind] = kinds.get(kind, 0) + 1
            if kind[1] == "refused":
                self.assertEqual(made, REFUSED)
            elif kind[1] == "unlike":
                self.assertEqual(made, (Unlike, {"value": wanted}))
                self.refused(Unlike(wanted), core_rule, points)
            else:
                self.assertEqual(made, wanted)
                self.assertTrue(is_fan_shaped(made))
                self.assertEqual(need_whole(made), made)
                self.assertEqual(fan_core(made), points)
                self.assertEqual(plain_corners(made), points)
        self.assertTrue({(1, "made"), (2, "made"), (2, "unlike"), (3, "made"), (3, "unlike")} <= set(kinds), kinds)

    def test_too_many_directions(self):
        kinds = set()
        for draw in drawings(60, 106):
            parts = draw.randint(2, 70)
            points = (told_point(*(Fraction(draw.randint(-parts, parts), parts) for _ in range(2))),)
            wanted = plain_core_fan(points)
            kinds.add(wanted is None)
            self.assertEqual(outcome(core_fan, points), REFUSED if wanted is None else wanted)
            if wanted is None:
                self.refused(TooGreat(60), core_rule, points)
        self.assertEqual(kinds, {True, False})
        self.refused(TooGreat(60), core_fan, ((1, MOST - 1, MOST),))
        # 59, 60 and 61 directions stand.
        for point in ((9, 1, 12), (10, 1, 12)):
            self.assertEqual(core_fan((point,)), plain_core_fan((point,)))
        self.assertIsNone(plain_core_fan(((11, 1, 12),)))
        self.refused(TooGreat(60), core_fan, ((11, 1, 12),))

    def test_great_numbers(self):
        points = ((-MOST, -MOST, 1), (MOST, -MOST, 1), (0, MOST, 1))
        made = core_fan(points)
        self.assertEqual(plain_corners(made), points)
        self.assertTrue(is_fan_shaped(made))
        self.assertEqual(core_fan(((-MOST, MOST, 1),)), tuple((u, MOST * (u[1] - u[0])) for u in AXES))

    def test_cores_of_rules_have_whole_lines(self):
        done = 0
        for draw in drawings(120, 107):
            points = core(drawn_rule(draw, 6, 2, 2))
            if points:
                made = outcome(core_fan, points)
                if made != REFUSED:
                    done += 1
                    self.assertEqual(fan_core(made), points)
        self.assertGreater(done, 60)

    def test_nothing(self):
        self.refused(NoRow(), core_fan, ())
        self.assertEqual(core_rule(()), TWO)


class Corners(Case):
    """What is no tuple of corners as they are told."""

    def each(self, error, points):
        self.refused(error, core_fan, points)
        self.refused(error, core_rule, points)
        self.refused(error, is_core_rule, points, TWO)

    def test_no_tuple_of_points(self):
        for points in ([], [(0, 0, 1)], None, 1, "", {}, True):
            self.each(BadParameter(points), points)
        ring = [(0, 0, 1)] * 13
        self.each(BadParameter(tuple(ring)), tuple(ring))
        self.each(BadParameter((None,) * 13), (None,) * 13)
        for wrong in ((0, 0, 2), (0, 0, 0), (MOST + 1, 0, 1), (0, 0), [0, 0, 1], None, (True, 0, 1)):
            self.each(BadPoint(wrong), (wrong,))
            self.each(BadPoint(wrong), ((0, 0, 1), wrong, (2, 2, 2)))
            self.each(BadPoint(wrong), (wrong,) * 12)

    def test_no_corners_in_their_order(self):
        square = ((0, 0, 1), (1, 0, 1), (1, 1, 1), (0, 1, 1))
        self.assertEqual(core_fan(square), (((1, 0), 1), ((0, 1), 1), ((-1, 0), 0), ((0, -1), 0)))
        for points in itertools.permutations(square):
            if points != square:
                self.each(BadParameter(points), points)
        wrong = [((1, 0, 1), (0, 0, 1)), ((0, 0, 1), (0, 0, 1)), ((0, 0, 1), (0, -1, 2)), ((1, 0, 2), (1, 0, 3))]
        wrong += [((0, 0, 1), (1, 0, 1), (2, 0, 1)), ((0, 0, 1), (1, 1, 1), (2, 2, 1)), ((0, 0, 1), (2, 0, 1), (1, 0, 1))]
        # One too many between neighbours, one that lies inside, one twice.
        for at, extra in ((1, (1, 0, 2)), (2, (1, 1, 2)), (3, (1, 1, 2)), (4, (0, 1, 2)), (2, (1, 1, 3)), (4, (1, 1, 2)),
                          (2, (2, 1, 2)), (3, (1, 2, 2)), (2, (1, 1, 3)), (2, (3, 1, 4)), (3, (1, 3, 4))):
            wrong.append(square[:at] + (extra,) + square[at:])
        wrong += [square[:k] + square[k - 1:] for k in (1, 2, 3, 4)] + [square * 2, square + square[:1]]
        # One that lies inside, or on a side, and is seen in its turn from the first one.
        wrong += [((0, 0, 1), (3, 0, 1), (1, 1, 1), (0, 3, 1)), ((0, 0, 1), (2, 0, 1), (1, 1, 1), (0, 2, 1))]
        wrong += [((0, 0, 1), (3, -3, 1), (2, 0, 1), (3, 3, 1)), ((0, 0, 1), (3, -3, 1), (3, 0, 1), (3, 3, 1))]
        # Twice round a star.
        star = ((-3, -1, 1), (3, 0, 1), (-2, 2, 1), (0, -3, 1), (1, 3, 1))
        wrong += [star[k:] + star[:k] for k in range(5)] + [(star[0], star[3], star[1], star[4], star[2])[::-1]]
        for points in wrong:
            self.each(BadParameter(points), points)
        good = (star[0], star[3], star[1], star[4], star[2])
        self.assertEqual(outcome(core_fan, good), outcome(core_fan, plain_points(good)))

    def test_drawn_ones_in_other_orders(self):
        for draw in drawings(100, 108):
            points = drawn_corners(draw, 5)
            mixed = tuple(draw.sample(points, len(points)))
            refused = outcome(core_fan, mixed) == (BadParameter, {"value": mixed})
            self.assertEqual(refused, mixed != points)

    def test_twelve_corners(self):
        met, at = [], (Fraction(0), Fraction(0))
        for a, b in in_turn(all_ways(1)[::2] + tuple(u for u in all_ways(2) if 2 in u or -2 in u)):
            at = (at[0] + a, at[1] + b)
            met.append(at)
        points = tuple(told_point(*p) for p in hull(met))
        self.assertEqual(len(points), 12)
        self.assertEqual(fan_core(core_fan(points)), points)
        self.assertIs(is_core_rule(points, core_rule(points)), True)


def plain_points(points):
    return tuple(told_point(x, y) for x, y in hull([fraction_point(point) for point in points]))


class CoreRule(Case):

    def test_examples(self):
        self.assertEqual(core_rule(((0, 0, 1),)), STAY)
        self.assertEqual(core_rule(points=((2, -3, 1),)), (((-2, 3),),))
        self.assertEqual(core(core_rule(((0, 0, 1), (1, 0, 2)))), ((0, 0, 1), (1, 0, 2)))
        # The line of all points with the first number 1 / 2.
        self.refused(Unlike((1, 0)), core_rule, ((1, 0, 2), (1, 1, 2)))
        self.refused(Unlike((1, 0)), core_rule, ((0, 0, 1), (1, -1, 2), (1, 1, 2)))

    def test_drawn_ones(self):
        done = 0
        for draw in drawings(120, 109):
            points = drawn_corners(draw, 4, 2, 3)
            fan = outcome(core_fan, points)
            if fan == REFUSED or isinstance(fan[0], type):
                self.assertEqual(outcome(core_rule, points), fan)
                continue
            made = outcome(core_rule, points)
            self.assertEqual(made, outcome(fan_rule, fan))
            if made != REFUSED:
                done += 1
                self.assertEqual(plain_corners(plain_fan(made)), points)
                if outcome(need_rule, made) == made:
                    self.assertEqual(core(made), points)
                    self.assertIs(is_core_rule(points, made), True)
        self.assertGreater(done, 60)


class IsCoreRule(Case):

    def test_rules(self):
        points = {TWO: (), LEFT: ((-1, 0, 1), (0, 0, 1)), FOUR: core(FOUR), TWO_OF_FOUR: ((-1, -1, 2),), STAY: ((0, 0, 1),)}
        for rule in points:
            for other in points:
                self.assertIs(is_core_rule(points[rule], other), rule == other)
        self.assertIs(is_core_rule(points=(), value=TWO), True)
        self.assertIs(is_core_rule(((0, 0, 1), (0, 1, 1)), LEFT), False)

    def test_values_of_any_kind(self):
        for odd in ODD + ((((1, 0),), ((0, 0),)), (((21, 0),),), ((tuple((k, 0) for k in range(13))),)):
            self.assertIs(is_core_rule((), odd), False)
            self.assertIs(is_core_rule(((0, 0, 1),), odd), False)
        # A rule that is none any more, though its core has these corners.
        self.assertIs(is_core_rule(((21, 0, 1),), moved_by(STAY, (21, 0))), False)
        self.assertIs(is_core_rule(((20, 0, 1),), moved_by(STAY, (20, 0))), True)

    def test_a_rule_whose_fan_is_too_great(self):
        for points in ((), ((0, 0, 1),), ((0, 0, 1), (1, 0, 1))):
            self.assertIs(is_core_rule(points, FAN_61), False)

    def test_points_without_a_rule(self):
        self.assertIs(is_core_rule(((1, 0, 2), (1, 1, 2)), LEFT), False)
        self.assertIs(is_core_rule(((1, MOST - 1, MOST),), LEFT), False)


if __name__ == "__main__":
    unittest.main()
