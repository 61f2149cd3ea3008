"""[30], [31], [32], [33] For all numbers of steps."""

import itertools
import unittest
from fractions import Fraction

from allislands.cores import core
from allislands.dooms import doom_of, gone_by
from allislands.errors import BadDirection, BadIsland, BadParameter, BadPlace, BadPoint, BadRule, NoRow, TooGreat
from allislands.forall import after, covers_all, empty_from, is_kept, kept_after, reach_after, sides, width_after
from allislands.living import living_at, living_island, living_size, ring_of
from tests.test_living import EIGHT, HALF_LEFT, ORIGIN, SIZE, drawn_frame, is_plain_ring, plain_sides, plain_size
from tests.tools import AXES, FAN_34, FAN_60, FAN_61, FAR, FOUR, LEFT, MOST, OFTEN, SQUARE, STAY, TWO, TWO_OF_FOUR, Case
from tests.tools import all_ways, drawings, drawn_island, drawn_rule, drawn_way, fraction_point, hull, outcome
from tests.tools import plain_corners, plain_fan, plain_speed, step

PAIR = ((0, 0), (1, 0))
NO_STEPS = (-1, OFTEN + 1, True, False, None, 1.0, "1", (1,))
NO_ISLAND = ((0, 0), (0, 0))
BOX_OF_FIVE = (((-1, 0),), ((0, -1),), ((0, 0),), ((0, 1),), ((1, 0),))


def plain_reach(island, u):
    return max(u[0] * x + u[1] * y for x, y in island)


def drawn_marks(draw, most=6, size=4):
    return drawn_island(draw, most, size) or ((draw.randint(-size, size), 0),)


class Sides(Case):

    def test_example(self):
        self.assertEqual(sides(TWO, PAIR), (((1, 0), 1), ((1, 1), 1), ((0, 1), 0), ((-1, 0), 0), ((-1, -1), 0), ((0, -1), 0)))
        self.assertEqual(sides(rule=LEFT, island=((3, -5),)), (((1, 0), 3), ((0, 1), -5), ((-1, 0), -3), ((0, -1), 5)))

    def test_drawn_ones(self):
        for draw in drawings(80, 130):
            rule, island = drawn_rule(draw, 5, 3, 3), drawn_marks(draw)
            self.assertEqual(sides(rule, island), tuple((u, plain_reach(island, u)) for u, s in plain_fan(rule)))

    def test_parameters(self):
        self.refused(BadRule(()), sides, None, None)
        self.refused(BadIsland(NO_ISLAND), sides, FAN_61, NO_ISLAND)
        self.refused(NoRow(), sides, FAN_61, ())
        self.refused(TooGreat(60), sides, FAN_61, PAIR)
        self.refused(TooGreat(60), sides, FAN_34, PAIR)


class Reaches(Case):

    def test_examples(self):
        self.assertEqual(reach_after(TWO, PAIR, (1, 1), 0), 1)
        self.assertEqual(reach_after(rule=TWO, island=PAIR, direction=(2, 2), steps=3), -4)
        self.assertEqual(reach_after(LEFT, PAIR, (-1, 0), OFTEN), OFTEN)
        self.assertEqual(width_after(rule=LEFT, island=PAIR, direction=(-1, 0), steps=OFTEN), OFTEN + 1)
        self.assertEqual(width_after(TWO, PAIR, (1, 1), 5), 1)
        self.assertEqual(width_after((((-1, 0), (1, 0)),), PAIR, (1, 0), 1), -1)
        self.assertEqual(width_after((((-1, 0), (1, 0)),), PAIR, (1, 0), OFTEN), 1 - 2 * OFTEN)

    def test_drawn_ones(self):
        for draw in drawings(80, 131):
            rule, island, n = drawn_rule(draw, 5, 3, 3), drawn_marks(draw), draw.choice((0, 1, 7, OFTEN))
            u = draw.choice((drawn_way(draw), (FAR, -FAR), (3, 0), (-4, 2)))
            wanted = plain_reach(island, u) + n * plain_speed(rule, u)
            about = (-u[0], -u[1])
            self.assertEqual(reach_after(rule, island, u, n), wanted)
            self.assertEqual(width_after(rule, island, u, n), wanted + plain_reach(island, about) + n * plain_speed(rule, about))

    def test_against_steps_done(self):
        for draw in drawings(40, 132):
            rule, island, u = drawn_rule(draw, 3, 3, 2), drawn_marks(draw), drawn_way(draw)
            marks = set(island)
            for n in range(5):
                numbers = [u[0] * x + u[1] * y for x, y in marks]
                if numbers:
                    self.assertLessEqual(max(numbers), reach_after(rule, island, u, n))
                    self.assertLessEqual(max(numbers) - min(numbers), width_after(rule, island, u, n))
                if width_after(rule, island, u, n) < 0:
                    self.assertFalse(marks)
                marks = step(rule, marks)

    def test_no_fan_is_asked(self):
        self.assertEqual(reach_after(FAN_61, PAIR, (1, 0), 2), 1 + 2 * plain_speed(FAN_61, (1, 0)))
        self.assertEqual(width_after(FAN_61, PAIR, (0, 1), 1), plain_speed(FAN_61, (0, 1)) + plain_speed(FAN_61, (0, -1)))

    def test_order_of_parameters(self):
        for call in (reach_after, width_after):
            self.refused(BadRule(()), call, None, NO_ISLAND, None, None)
            self.refused(BadIsland(NO_ISLAND), call, TWO, NO_ISLAND, None, None)
            for u in ((0, 0), (FAR + 1, 0), None, [1, 0]):
                self.refused(BadDirection(u), call, TWO, (), u, None)
            for steps in NO_STEPS:
                self.refused(BadParameter(steps), call, TWO, (), (1, 0), steps)
            self.refused(NoRow(), call, TWO, (), (1, 0), 0)


class After(Case):

    def test_examples(self):
        self.assertEqual([after(TWO, PAIR, n) for n in range(4)], [((0, 0, 1), (1, 0, 1)), ((0, 0, 1),), (), ()])
        self.assertEqual(after(rule=LEFT, island=((0, 0),), steps=10 ** 20), ((-10 ** 20, 0, 1), (0, 0, 1)))
        self.assertEqual(after(TWO_OF_FOUR, ((0, 0),), 3), ((-3, -3, 2),))
        self.assertEqual(after(FOUR, ((0, 0),), OFTEN)[0], (-OFTEN, 0, 1))
        self.assertEqual(after(TWO, PAIR, OFTEN), ())

    def test_drawn_ones(self):
        kinds = set()
        for draw in drawings(150, 133):
            rule, island = drawn_rule(draw, 4, 3, 2), drawn_marks(draw, 3, 3)
            fan = plain_fan(rule)
            for n in (0, 1, draw.randint(2, 6), OFTEN):
                wanted = plain_corners([(u, plain_reach(island, u) + n * s) for u, s in fan])
                kinds.add(min(3, len(wanted)))
                self.assertEqual(after(rule, island, n), wanted)
        self.assertEqual(kinds, {0, 1, 2, 3})

    def test_all_marks_lie_within(self):
        for draw in drawings(40, 134):
            rule, island = drawn_rule(draw, 3, 3, 2), drawn_marks(draw)
            marks = set(island)
            for n in range(5):
                corners = [fraction_point(point) for point in after(rule, island, n)]
                self.assertTrue(corners or not marks)
                for x, y in marks:
                    self.assertEqual(hull(corners + [(Fraction(x), Fraction(y))]), corners)
                marks = step(rule, marks)

    def test_facts(self):
        for draw in drawings(60, 135):
            rule, island, n = drawn_rule(draw, 5, 2, 2), drawn_marks(draw), draw.randint(0, 5)
            a, b = draw.randint(-9, 9), draw.randint(-9, 9)
            met = [fraction_point(point) for point in after(rule, island, n)]
            moved = tuple(sorted((x + a, y + b) for x, y in island))
            self.assertEqual([fraction_point(point) for point in after(rule, moved, n)], [(x + a, y + b) for x, y in met])
            for x, y in map(fraction_point, core(rule)):
                for p, q in island:
                    self.assertEqual(hull(met + [(p + n * x, q + n * y)]), met)
            inside = tuple(sorted({(x, y) for x in range(-5, 6) for y in range(-5, 6)
                                   if hull([*map(tuple, island), (x, y)]) == hull(map(tuple, island))}))
            self.assertEqual(after(rule, inside, n), after(rule, island, n))

    def test_order_of_parameters(self):
        self.refused(BadRule(()), after, None, NO_ISLAND, None)
        self.refused(BadIsland(NO_ISLAND), after, TWO, NO_ISLAND, None)
        for steps in NO_STEPS:
            self.refused(BadParameter(steps), after, FAN_61, (), steps)
        self.refused(NoRow(), after, FAN_61, (), 0)
        self.refused(TooGreat(60), after, FAN_61, PAIR, 0)


class EmptyFrom(Case):

    def test_examples(self):
        self.assertEqual(empty_from(TWO, PAIR), 2)
        self.assertEqual(empty_from(rule=TWO, island=((5, -7),)), 1)
        self.assertEqual(empty_from(TWO, ((0, -10 ** 9), (10 ** 9, 10 ** 9))), 3 * 10 ** 9 + 1)
        for rule in (LEFT, STAY, FOUR, TWO_OF_FOUR):
            self.refused(NoRow(), empty_from, rule, PAIR)

    def test_the_least_number(self):
        kinds, sooner = set(), 0
        for draw in drawings(200, 136):
            rule, island = drawn_rule(draw, 4, 4, 2), drawn_marks(draw, 4, 6)
            n = outcome(empty_from, rule, island)
            if core(rule):
                self.assertEqual(n, (NoRow, {}))
                continue
            kinds.add(min(n, 6))
            fan = plain_fan(rule)
            numbers = [[(u, plain_reach(island, u) + k * s) for u, s in fan] for k in (n - 1, n)]
            self.assertEqual(plain_corners(numbers[1]), ())
            self.assertNotEqual(plain_corners(numbers[0]), ())
            self.assertEqual(after(rule, island, n), ())
            self.assertNotEqual(after(rule, island, n - 1), ())
            self.assertLessEqual(n, gone_by(rule, island, doom_of(rule)))
            sooner += n < gone_by(rule, island, doom_of(rule))
        self.assertTrue({1, 2, 3, 4, 5, 6} <= kinds and sooner > 0)

    def test_order_of_parameters(self):
        self.refused(BadRule(()), empty_from, None, NO_ISLAND)
        self.refused(BadIsland(NO_ISLAND), empty_from, FAN_61, NO_ISLAND)
        self.refused(NoRow(), empty_from, FAN_61, ())
        self.refused(TooGreat(60), empty_from, FAN_61, PAIR)
        self.refused(TooGreat(60), empty_from, FAN_34, PAIR)
        self.refused(NoRow(), empty_from, FAN_60, PAIR)


class CoversAll(Case):

    def test_the_origin_inside_on_a_side_at_a_corner_outside(self):
        self.assertIs(covers_all(FOUR), True)
        self.assertIs(covers_all(rule=BOX_OF_FIVE), True)
        self.assertIs(covers_all(SQUARE), False)
        half = tuple(((x, y),) for x, y in ((-2, 0), (0, -2), (2, 0)))
        self.assertEqual(core(half), ((-2, 0, 1), (2, 0, 1), (0, 2, 1)))
        self.assertIs(covers_all(half), False)
        for rule in (LEFT, STAY, TWO, TWO_OF_FOUR, (((1, 0),), ((2, 0),), ((3, 5),)), (((0, 0),), ((0, 1),), ((1, 0),))):
            self.assertIs(covers_all(rule), False)

    def test_drawn_ones(self):
        kinds = {}
        for draw in drawings(300, 137):
            rule = drawn_rule(draw, 8, 2, 2)
            wanted = all(plain_speed(rule, u) > 0 for u in all_ways(5))
            kinds[wanted] = kinds.get(wanted, 0) + 1
            self.assertIs(covers_all(rule), wanted)
            self.assertEqual(wanted, all(s > 0 for u, s in plain_fan(rule)))
        self.assertGreater(min(kinds[True], kinds[False]), 20)

    def test_parameters(self):
        self.refused(BadRule(()), covers_all, None)
        self.refused(TooGreat(60), covers_all, FAN_61)
        self.assertIs(covers_all(FAN_60), False)


class Kept(Case):

    def test_examples(self):
        self.assertEqual(kept_after(LEFT, HALF_LEFT, AXES, 1, 3),
                         (((1, 0), (-3, 2)), ((0, 1), (1, 1)), ((-1, 0), (5, 2)), ((0, -1), (0, 1))))
        self.assertEqual(kept_after(rule=LEFT, point=HALF_LEFT, ring=AXES, size=SIZE, steps=OFTEN),
                         (((1, 0), (-OFTEN // 2, 1)), ((0, 1), (SIZE, 1)), ((-1, 0), (SIZE + OFTEN // 2, 1)), ((0, -1), (0, 1))))
        self.assertIs(is_kept(rule=LEFT, point=HALF_LEFT, ring=AXES, size=1, steps=3, place=(-2, 1)), True)
        self.assertIs(is_kept(LEFT, HALF_LEFT, AXES, 1, 3, (-1, 1)), False)
        self.assertIs(is_kept(LEFT, HALF_LEFT, AXES, 1, 3, (-3, 1)), False)

    def test_against_the_places(self):
        met = set()
        for draw in drawings(80, 138):
            rule = drawn_rule(draw, 5, 2, 1)
            for point in core(rule)[:2]:
                ring, n = ring_of(rule, point), draw.randint(0, 5)
                size = living_size(rule, point, ring) + draw.randint(0, 2)
                wanted = plain_sides(ring, size, point, n)
                found = kept_after(rule, point, ring, size, n)
                self.assertEqual([(u, Fraction(*m)) for u, m in found], wanted)
                self.assertEqual([m for u, m in found], [(s.numerator, s.denominator) for u, s in map(fraction_pair, wanted)])
                places = outcome(living_at, ring, size, point, n)
                if places != (TooGreat, {"most": 400}):
                    for place in places[:8] + tuple((draw.randint(-9, 9), draw.randint(-9, 9)) for _ in range(12)):
                        met.add(place in places)
                        self.assertIs(is_kept(rule, point, ring, size, n, place), place in places)
        self.assertEqual(met, {True, False})

    def test_places_that_are_too_many(self):
        far = (-10 ** 9, 10 ** 9)
        self.refused(TooGreat(400), living_at, AXES, SIZE, HALF_LEFT, 4)
        self.assertIs(is_kept(LEFT, HALF_LEFT, AXES, SIZE, 0, far), True)
        self.assertIs(is_kept(LEFT, HALF_LEFT, AXES, SIZE, 1, far), True)
        self.assertIs(is_kept(LEFT, HALF_LEFT, AXES, SIZE - 1, 1, far), False)
        self.assertIs(is_kept(LEFT, HALF_LEFT, AXES, SIZE, 1, (-1, 0)), True)
        self.assertIs(is_kept(LEFT, HALF_LEFT, AXES, SIZE, 1, (0, 0)), False)
        self.assertIs(is_kept(LEFT, HALF_LEFT, AXES, SIZE, OFTEN, (0, 0)), False)

    def test_they_lie_within_after(self):
        for draw in drawings(30, 139):
            rule = drawn_rule(draw, 5, 2, 1)
            for point in core(rule)[:1]:
                ring = ring_of(rule, point)
                size = living_size(rule, point, ring)
                island = outcome(living_island, ring, size)
                if island != (TooGreat, {"most": 400}):
                    for n in (1, 4):
                        corners = [fraction_point(p) for p in after(rule, island, n)]
                        for place in outcome(living_at, ring, size, point, n):
                            self.assertEqual(hull(corners + [tuple(map(Fraction, place))]), corners)

    def test_order_of_parameters(self):
        for call, rest in ((kept_after, ()), (is_kept, (None,))):
            self.refused(BadRule(()), call, None, None, None, None, None, *rest)
            for point in ((0, 0, 2), None, [0, 0, 1], (0, 0)):
                self.refused(BadPoint(point), call, LEFT, point, None, None, None, *rest)
            for ring in (None, (), AXES[:3], list(AXES), EIGHT[:7]):
                self.refused(BadParameter(ring), call, LEFT, HALF_LEFT, ring, None, None, *rest)
            self.refused(BadParameter(AXES), call, LEFT, (1, 0, 1), AXES, None, None, *rest)
            for size in (0, SIZE + 1, True, None, 1.0):
                self.refused(BadParameter(size), call, LEFT, HALF_LEFT, AXES, size, None, *rest)
            # The least size that lives is 2 here.
            self.assertEqual(living_size(FOUR, ORIGIN, EIGHT), 2)
            self.refused(BadParameter(1), call, FOUR, ORIGIN, EIGHT, 1, None, *rest)
            for steps in NO_STEPS:
                self.refused(BadParameter(steps), call, FOUR, ORIGIN, EIGHT, 2, steps, *rest)
        for place in (None, [0, 0], (10 ** 9 + 1, 0), (0, True)):
            self.refused(BadPlace(place), is_kept, FOUR, ORIGIN, EIGHT, 2, 0, place)
        self.assertEqual(len(kept_after(FOUR, ORIGIN, EIGHT, SIZE, OFTEN)), 8)

    def test_no_size_is_great_enough(self):
        far = tuple(itertools.chain(AXES[:1], ((MOST, 1),), AXES[1:3], ((-MOST, -1),), AXES[3:]))
        self.assertTrue(is_plain_ring(FOUR, ORIGIN, far))
        self.assertGreater(plain_size(FOUR, ORIGIN, far), SIZE)
        for size in (1, SIZE, 2 * MOST):
            self.refused(BadParameter(size), kept_after, FOUR, ORIGIN, far, size, 0)

    def test_one_size_is_great_enough(self):
        edge = tuple(itertools.chain(AXES[:1], ((SIZE // 2, 1),), AXES[1:3], ((-SIZE // 2, -1),), AXES[3:]))
        self.assertEqual(living_size(FOUR, ORIGIN, edge), SIZE)
        self.assertEqual(len(kept_after(FOUR, ORIGIN, edge, SIZE, 0)), 6)
        self.refused(BadParameter(SIZE - 1), kept_after, FOUR, ORIGIN, edge, SIZE - 1, 0)

    def test_drawn_rings(self):
        for draw in drawings(40, 140):
            ring, n = drawn_frame(draw), draw.randint(0, 3)
            size = living_size(STAY, ORIGIN, ring) + draw.randint(0, 3)
            self.assertEqual([(u, Fraction(*m)) for u, m in kept_after(STAY, ORIGIN, ring, size, n)], plain_sides(ring, size))


def fraction_pair(pair):
    return (pair[0], Fraction(pair[1]))


if __name__ == "__main__":
    unittest.main()
