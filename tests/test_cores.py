"""[23], [24] Points and cores."""

import math
import unittest
from fractions import Fraction

from allislands.bars import bars
from allislands.cores import common_core, core, core_area, core_sides, core_widths, fan_core, in_core, is_empty
from allislands.cores import need_point, term_core
from allislands.errors import BadDirection, BadFan, BadPoint, BadRule, BadTerm, NoRow, TooGreat
from allislands.fans import fan_of, fan_of_term, never_faster
from allislands.rules import both_marked, moved_by, need_rule, power
from tests.test_fanwork import CROSS, TWELVE
from tests.test_fans import HALF, REFUSED, ZERO, drawn_fan
from tests.tools import AXES, FAN_34, FAN_60, FAN_61, FAR, FOUR, LEFT, MOST, ODD, STAY, TWO, TWO_OF_FOUR, Case, across
from tests.tools import all_ways, drawings, drawn_point, drawn_rule, drawn_term, drawn_way, fraction_point, hull
from tests.tools import outcome, plain_corners, plain_fan, plain_speed, told_point


def box_fan(right, high, left, low):
    return tuple(zip(AXES, (right, high, -left, -low)))


def is_in(point, pairs):
    x, y = fraction_point(point)
    return all(u[0] * x + u[1] * y <= s for u, s in pairs)


def area(corners):
    met = [fraction_point(point) for point in corners]
    twice = sum(across(p, q) for p, q in zip(met, met[1:] + met[:1]))
    return (Fraction(twice, 2).numerator, Fraction(twice, 2).denominator)


class NeedPoint(Case):

    def test_points(self):
        for point in ((0, 0, 1), (-1, -1, 2), (MOST, -MOST, 1), (-MOST, MOST - 1, MOST), (2, 4, 3), (0, 1, MOST),
                      (2, 3, 6), (6, 10, 15)):
            self.assertIs(need_point(point), point)
            self.assertIs(need_point(value=point), point)

    def test_values_that_are_none(self):
        wrong = [(0, 0, 0), (0, 0, 2), (2, 2, 2), (2, 4, 6), (6, 0, 3), (1, 1, 0), (1, 1, -1), (-1, -1, -2)]
        wrong += [(MOST + 1, 0, 1), (0, -MOST - 1, 1), (1, 1, MOST + 1), (0, 0, MOST), (3, 5), (3, 5, 1, 1), [0, 0, 1]]
        wrong += [(True, 0, 1), (0, False, 1), (0, 0, True), (0.0, 0, 1), (0, 0, 1.0), (None, 0, 1), ((0, 0), 1)]
        for value in wrong + list(ODD):
            self.refused(BadPoint(value), need_point, value)
            self.refused(BadPoint(value), in_core, LEFT, value)


class Core(Case):

    def test_examples(self):
        self.assertEqual(core(TWO), ())
        self.assertEqual(core(rule=LEFT), ((-1, 0, 1), (0, 0, 1)))
        self.assertEqual(core(FOUR), ((-1, 0, 1), (0, -1, 1), (1, 0, 1), (0, 1, 1)))
        self.assertEqual(core(TWO_OF_FOUR), ((-1, -1, 2),))
        self.assertEqual(core(STAY), ((0, 0, 1),))
        self.assertEqual(core((((3, -4),),)), ((-3, 4, 1),))

    def test_rules_against_all_crossings(self):
        kinds = {}
        for draw in drawings(250, 80):
            rule = drawn_rule(draw, 6, 3, 2)
            wanted = plain_corners(plain_fan(rule))
            self.assertEqual(core(rule), wanted)
            self.assertIs(is_empty(rule), wanted == ())
            kinds[min(len(wanted), 3)] = kinds.get(min(len(wanted), 3), 0) + 1
        self.assertEqual(set(kinds), {0, 1, 2, 3})

    def test_the_hulls_of_the_bars(self):
        for draw in drawings(40, 81):
            rule = drawn_rule(draw, 4, 3, 2)
            for point in (drawn_point(draw, 2, 3) for _ in range(12)):
                x, y = fraction_point(point)
                about = [[(-a, -b) for a, b in bar] for bar in bars(rule)]
                inside = all(hull(bar + [(x, y)]) == hull(bar) for bar in about)
                self.assertEqual(in_core(rule, point), inside)

    def test_terms(self):
        self.assertEqual(term_core(term=("rank", 2, ((0, 0), (0, 1), (1, 0)))), ())
        self.assertEqual(term_core(("again", ("most", (("at", (0, 0)), ("at", (1, 0)))), 10 ** 30)),
                         ((-10 ** 30, 0, 1), (0, 0, 1)))
        for draw in drawings(80, 82):
            term = drawn_term(draw, 3, 3)
            fan = outcome(fan_of_term, term)
            if fan != REFUSED:
                self.assertEqual(term_core(term), plain_corners(fan))

    def test_fans(self):
        self.assertEqual(fan_core(fan=HALF), ((0, 0, 1),))
        self.assertEqual(fan_core(box_fan(3, 5, -2, -1)), ((-2, -1, 1), (3, -1, 1), (3, 5, 1), (-2, 5, 1)))
        self.assertEqual(fan_core(box_fan(3, 5, 3, -1)), ((3, -1, 1), (3, 5, 1)))
        self.assertEqual(fan_core(box_fan(3, 5, -1, 5)), ((-1, 5, 1), (3, 5, 1)))
        self.assertEqual(fan_core(box_fan(3, 5, 3, 5)), ((3, 5, 1),))
        self.assertEqual(fan_core(box_fan(3, 5, 4, 5)), ())
        self.assertEqual(fan_core(box_fan(3, 5, 3, 6)), ())
        self.assertEqual(fan_core(box_fan(MOST, MOST, -MOST, 1 - MOST))[0], (-MOST, 1 - MOST, 1))
        kinds = set()
        for draw in drawings(150, 83):
            fan = drawn_fan(draw, draw.randint(0, 8), 4, draw.choice((1, 5)))
            self.assertEqual(fan_core(fan), plain_corners(fan))
            kinds.add(min(3, len(fan_core(fan))))
        self.assertTrue({0, 1, 3} <= kinds)

    def test_great_directions_and_numbers(self):
        fan = box_fan(MOST, MOST, -MOST, -MOST)
        fan = fan[:1] + (((FAR, FAR - 1), 7), ((FAR - 1, FAR), 5)) + fan[1:]
        self.assertEqual(fan_core(fan), plain_corners(fan))

    def test_as_corners_are_told(self):
        for draw in drawings(60, 84):
            points = core(drawn_rule(draw, 8, 2, 3))
            met = [fraction_point(point) for point in points]
            self.assertEqual(met, hull(met))
            for point in points:
                self.assertEqual(need_point(point), point)
                self.assertEqual(math.gcd(*point), 1)

    def test_parameters(self):
        for call, rest in ((core, ()), (is_empty, ()), (core_sides, ()), (core_area, ()), (in_core, (None,)),
                           (core_widths, (None,)), (common_core, (None,))):
            self.refused(BadRule(()), call, None, *rest)
            self.refused(BadRule((0,)), call, ((),), *rest)
            self.refused(BadRule((1,)), call, (((1, 0),), ((0, 0),)), *rest)
        self.refused(BadTerm(()), term_core, ("at", (21, 0)))
        self.refused(BadFan(ZERO[:3]), fan_core, ZERO[:3])
        self.refused(TooGreat(60), fan_core, (None,) * 61)
        self.refused(BadPoint((0, 0, 2)), in_core, FAN_61, (0, 0, 2))
        self.refused(BadDirection((0, 0)), core_widths, FAN_61, (0, 0))
        self.refused(BadRule(()), common_core, FAN_61, ())

    def test_too_great(self):
        for rule in (FAN_61, FAN_34):
            for call, rest in ((core, ()), (is_empty, ()), (core_sides, ()), (core_area, ()), (in_core, ((0, 0, 1),)),
                               (core_widths, ((1, 0),)), (common_core, (STAY,))):
                self.refused(TooGreat(60), call, rule, *rest)
            self.refused(TooGreat(60), common_core, STAY, rule)
        self.assertEqual(core(FAN_60), plain_corners(plain_fan(FAN_60)))
        self.refused(TooGreat(60), term_core, ("then", TWELVE, ("rank", 6, CROSS)))


class InCore(Case):

    def test_inside_on_sides_and_beyond(self):
        half = MOST // 2
        inner = [(0, 0, 1), (1, 0, 1), (1, 1, 2), (2, 1, 3), (0, 1, 1), (-1, 0, 1), (0, -1, 1), (MOST - 1, 0, MOST),
                 (half - 1, half, MOST - 1), (half, half - 1, MOST - 1), (-half, half - 1, MOST - 1)]
        outer = [(2, 1, 2), (0, 2, 1), (MOST, 0, MOST - 1), (-MOST, MOST, 1), (half, half, MOST - 1),
                 (-half, -half, MOST - 1), (half + 1, -half, MOST - 1), (1, MOST - 1, MOST - 1)]
        for points, inside in ((inner, True), (outer, False)):
            for point in points:
                self.assertIs(in_core(rule=FOUR, point=point), inside, point)
        self.assertIs(in_core(TWO, (0, 0, 1)), False)
        self.assertIs(in_core(TWO_OF_FOUR, (-1, -1, 2)), True)
        for point in ((-half + 1, -half, MOST - 1), (-half, -half + 1, MOST - 1), (0, 0, 1), (-1, -1, 3)):
            self.assertIs(in_core(TWO_OF_FOUR, point), False)

    def test_drawn_points(self):
        met = set()
        for draw in drawings(100, 85):
            rule = drawn_rule(draw, 6, 2, 2)
            fan = plain_fan(rule)
            for point in [drawn_point(draw, 2, 3) for _ in range(10)] + list(plain_corners(fan)):
                met.add(in_core(rule, point))
                self.assertIs(in_core(rule, point), is_in(point, fan))
                every = all(u[0] * point[0] + u[1] * point[1] <= plain_speed(rule, u) * point[2] for u in all_ways(5))
                self.assertTrue(every or not in_core(rule, point))
        self.assertEqual(met, {True, False})


class Measures(Case):

    def test_examples(self):
        self.assertEqual(core_sides(TWO), ())
        self.assertEqual(core_sides(LEFT), (((1, 0), 0), ((0, 1), 0), ((-1, 0), 1), ((0, -1), 0)))
        self.assertEqual(core_sides(rule=FOUR), fan_of(FOUR))
        self.assertEqual(core_widths(rule=FOUR, direction=(1, 0)), ((-1, 1), (1, 1)))
        self.assertEqual(core_widths(TWO_OF_FOUR, (1, 0)), ((-1, 2), (-1, 2)))
        self.assertEqual(core_widths(TWO_OF_FOUR, (2, 4)), ((-3, 1), (-3, 1)))
        self.assertEqual(core_widths(LEFT, (-FAR, 3)), ((0, 1), (FAR, 1)))
        self.assertEqual(core_area(rule=FOUR), (2, 1))
        for rule in (TWO, LEFT, STAY, TWO_OF_FOUR):
            self.assertEqual(core_area(rule), (0, 1))
        self.refused(NoRow(), core_widths, TWO, (1, 0))

    def test_directions(self):
        for u in ((0, 0), (FAR + 1, 0), None, [1, 0], (True, 1)):
            self.refused(BadDirection(u), core_widths, TWO, u)

    def test_drawn_ones(self):
        broken = set()
        for draw in drawings(150, 86):
            rule = drawn_rule(draw, 6, 3, 2)
            fan, points = plain_fan(rule), plain_corners(plain_fan(rule))
            self.assertEqual(core_area(rule), area(points))
            met = [fraction_point(point) for point in points]
            self.assertEqual(core_sides(rule), tuple((u, s) for u, s in fan if any(u[0] * x + u[1] * y == s for x, y in met)))
            u = drawn_way(draw)
            if points:
                numbers = [u[0] * x + u[1] * y for x, y in met]
                wanted = tuple((n.numerator, n.denominator) for n in (min(numbers), max(numbers)))
                self.assertEqual(core_widths(rule, u), wanted)
                broken.add((core_area(rule)[1] > 1, wanted[0][1] > 1, wanted[1][1] > 1))
            else:
                self.refused(NoRow(), core_widths, rule, u)
        self.assertGreater(len(broken), 3)


class Facts(Case):

    def test_common_core(self):
        self.assertEqual(common_core(one=LEFT, other=FOUR), ((-1, 0, 1), (0, 0, 1)))
        self.assertEqual(common_core(STAY, (((1, 0),),)), ())
        met = set()
        for draw in drawings(100, 87):
            one, other = drawn_rule(draw, 4, 2, 2), drawn_rule(draw, 4, 2, 2)
            found = common_core(one, other)
            self.assertEqual(found, plain_corners(plain_fan(one) + plain_fan(other)))
            both = outcome(both_marked, one, other)
            if both != REFUSED:
                self.assertEqual(found, plain_corners(plain_fan(both)))
                if outcome(need_rule, both) == both:
                    self.assertEqual(core(both), found)
            met.add(min(len(found), 3))
        self.assertEqual(met, {0, 1, 2, 3})

    def test_moved(self):
        for draw in drawings(60, 88):
            rule, place = drawn_rule(draw, 5, 2, 2), (draw.randint(-9, 9), draw.randint(-9, 9))
            wanted = tuple(told_point(x + place[0], y + place[1]) for x, y in map(fraction_point, core(rule)))
            self.assertEqual(core(moved_by(rule, place)), wanted)

    def test_powers(self):
        done = 0
        for draw in drawings(80, 89):
            rule, times = drawn_rule(draw, 3, 2, 1), draw.randint(1, 4)
            made = outcome(power, rule, times)
            if made != REFUSED and outcome(need_rule, made) == made:
                done += 1
                self.assertEqual(core(made), tuple(told_point(x * times, y * times) for x, y in map(fraction_point, core(rule))))
        self.assertGreater(done, 30)
        self.assertEqual(core(power(LEFT, 0)), ((0, 0, 1),))

    def test_slower_rules(self):
        done = 0
        for draw in drawings(300, 90):
            one, other = drawn_rule(draw, 3, 2, 1), drawn_rule(draw, 6, 2, 1)
            if never_faster(one, other):
                done += len(core(one)) > 0
                self.assertTrue(all(in_core(other, point) for point in core(one)))
        self.assertGreater(done, 10)

    def test_sides_lie_on_whole_lines(self):
        for draw in drawings(80, 91):
            rule = drawn_rule(draw, 6, 2, 2)
            points = core(rule)
            if len(points) > 1:
                told = set(core_sides(rule))
                for p, q in list(zip(points, points[1:] + points[:1]))[:len(points) if len(points) > 2 else 1]:
                    self.assertTrue(any(u[0] * x[0] + u[1] * x[1] == s * x[2] for u, s in told
                                        for x in (p,) if u[0] * q[0] + u[1] * q[1] == s * q[2]))


if __name__ == "__main__":
    unittest.main()
