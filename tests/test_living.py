"""[28], [29] Some live."""

import itertools
import math
import unittest
from fractions import Fraction

from allislands.cores import core, in_core
from allislands.errors import BadIsland, BadParameter, BadPlace, BadPoint, BadRule, NoRow, TooGreat
from allislands.living import frame_corners, holds_moved, is_ring, living_at, living_island, living_size, ring_of
from tests.tools import AXES, FAN_60, FAN_61, FAR, FOUR, LEFT, MOST, ODD, OFTEN, SQUARE, STAY, TWO, TWO_OF_FOUR, Case, across
from tests.tools import all_ways, cones, drawings, drawn_island, drawn_point, drawn_rule, fraction_point, in_turn
from tests.tools import outcome, plain, plain_corners, plain_fan, step, told_point

ORIGIN = (0, 0, 1)
HALF_LEFT = (-1, 0, 2)
SKEW = in_turn([(2, 1), (-1, 2), (-2, -1), (1, -2)])
EIGHT = all_ways(1)
SIZE = 10 ** 9


def is_plain_frame(value):
    """Whether a tuple of pairs of integers is a frame, by the document's words."""
    if not 4 <= len(value) <= 400 or any(math.gcd(*u) != 1 for u in value):
        return False
    if value != in_turn(value) or any((-a, -b) not in value for a, b in value):
        return False
    return all(across(u, v) > 0 for u, v in cones(value))


def is_plain_ring(rule, point, value):
    x, y, d = point

    def led(u, need):
        return all(d * (u[0] * a + u[1] * b) + u[0] * x + u[1] * y <= 0 for a, b in need)
    return is_plain_frame(value) and all(any(led(u, n) and led(v, n) for n in rule) for u, v in cones(value))


def drawn_frame(draw, size=3):
    """A frame of drawn directions and their opposites."""
    while True:
        ways = draw.sample(all_ways(size), draw.randint(2, 5))
        frame = in_turn(ways + [(-a, -b) for a, b in ways])
        if len(frame) > 3:
            return frame


def plain_sides(frame, size, point=ORIGIN, times=0):
    """The half planes of a frame polygon, from where its sides begin."""
    at, found = (0, 0), []
    x, y = fraction_point(point)
    for a, b in frame:
        found.append(((a, b), a * (at[0] + times * x) + b * (at[1] + times * y)))
        at = (at[0] - size * b, at[1] + size * a)
    assert at == (0, 0)
    return found


def plain_places(sides, size=40):
    near = range(-size, size + 1)
    return tuple((x, y) for x in near for y in near if all(u[0] * x + u[1] * y <= s for u, s in sides))


def plain_size(rule, point, ring):
    x, y = fraction_point(point)
    reach = {u: max([Fraction(0)] + [u[0] * (a + x) + u[1] * (b + y) for need in rule for a, b in need]) for u in ring}
    near = {pair for pair in cones(ring)}
    sums = [reach[u] + reach[v] for u, v in itertools.combinations(ring, 2) if (u, v) not in near and (v, u) not in near]
    return max(1, math.ceil(max(sums)))


def long_frame(many):
    """A frame of so many directions, (1, K) and (-1, -K) and the axes."""
    ways = [(1, k) for k in range(many // 2 - 1)] + [(0, 1)]
    return in_turn(ways + [(-a, -b) for a, b in ways])


class Rings(Case):

    def test_examples(self):
        self.assertIs(is_ring(LEFT, HALF_LEFT, AXES), True)
        self.assertIs(is_ring(rule=LEFT, point=(1, 0, 1), value=AXES), False)
        self.refused(NoRow(), ring_of, LEFT, (1, 0, 1))
        self.assertIs(is_ring(LEFT, HALF_LEFT, ring_of(rule=LEFT, point=HALF_LEFT)), True)

    def test_corners_sides_and_just_beyond(self):
        half = MOST // 2
        for rule, inside, outside in (
                (LEFT, ((0, 0, 1), (-1, 0, 1), HALF_LEFT, (-1, 0, MOST), (1 - MOST, 0, MOST)),
                 ((1, 0, MOST), (-MOST, 0, MOST - 1), (0, 1, MOST), (-half, -1, MOST))),
                (FOUR, core(FOUR) + ((0, 0, 1), (1, 1, 2), (-1, 2, 3), (half - 1, half, MOST - 1)),
                 ((2, 1, 2), (half, half, MOST - 1), (MOST, 0, MOST - 1), (MOST, -MOST, 1))),
                (TWO_OF_FOUR, ((-1, -1, 2),), ((-half, -half + 1, MOST - 1), (0, 0, 1), (-1, 0, 2))),
                (TWO, (), ((0, 0, 1), (-1, -1, 3), (0, -1, 1))),
                (STAY, ((0, 0, 1),), ((1, 0, MOST), (0, -1, MOST)))):
            for point in inside:
                if math.gcd(*point) == 1:
                    ring = ring_of(rule, point)
                    self.assertTrue(is_plain_ring(rule, point, ring))
                    self.assertIs(is_ring(rule, point, ring), True)
            for point in outside:
                if math.gcd(*point) == 1:
                    self.refused(NoRow(), ring_of, rule, point)

    def test_a_ring_exactly_in_the_core(self):
        kinds, sizes = set(), set()
        for draw in drawings(300, 120):
            rule = drawn_rule(draw, 5, 3, draw.choice((2, 7, 20)))
            fan = plain_fan(rule)
            for point in list(plain_corners(fan)) + [drawn_point(draw, 2, 3) for _ in range(5)]:
                x, y = fraction_point(point)
                inside = all(u[0] * x + u[1] * y <= s for u, s in fan)
                kinds.add(inside)
                ring = outcome(ring_of, rule, point)
                if inside:
                    sizes.add(len(ring))
                    self.assertTrue(is_plain_ring(rule, point, ring))
                    self.assertIs(is_ring(rule, point, ring), True)
                else:
                    self.assertEqual(ring, (NoRow, {}))
        self.assertEqual(kinds, {True, False})
        self.assertTrue({4, 6} <= sizes)

    def test_great_rules(self):
        # Rings ask no fan, so rules whose fans are too great have them, too.
        for rule in (FAN_60, FAN_61):
            for point in core(FAN_60) + ((0, -2, 1), (1, -4, 3)):
                ring = ring_of(rule, point)
                self.assertTrue(is_plain_ring(rule, point, ring))
                self.assertIs(is_ring(rule, point, ring), True)
            self.refused(NoRow(), ring_of, rule, (30, 0, 1))

    def test_drawn_frames(self):
        kinds = set()
        for draw in drawings(300, 121):
            rule, frame = drawn_rule(draw, 6, 2, 1), drawn_frame(draw, 2)
            point = drawn_point(draw, 1, 2)
            wanted = is_plain_ring(rule, point, frame)
            kinds.add(wanted)
            self.assertIs(is_ring(rule, point, frame), wanted)
        self.assertEqual(kinds, {True, False})

    def test_frames_that_are_none(self):
        # At (0, 0) everything is a ring of a mark that stays, if only it is a frame.
        for frame in (AXES, EIGHT, SKEW, all_ways(4), long_frame(400), in_turn([*AXES, (MOST, 1), (-MOST, -1)])):
            self.assertIs(is_ring(STAY, ORIGIN, frame), True)
            self.assertTrue(is_plain_frame(frame))
        self.assertEqual(len(long_frame(400)), 400)
        long = all_ways(13)
        self.assertGreater(len(long), 402)
        wrong = [long[:200] + long[len(long) // 2:][:200 + k] for k in (1, 2)] + [long, long_frame(402), (), AXES[:3]]
        wrong += [EIGHT[:k] + EIGHT[k + 1:] for k in range(8)] + [EIGHT[:k] + EIGHT[k:k + 1] + EIGHT[k:] for k in range(8)]
        wrong += [EIGHT[:k - 1] + (EIGHT[k], EIGHT[k - 1]) + EIGHT[k + 1:] for k in range(1, 8)]
        wrong += [EIGHT[k:] + EIGHT[:k] for k in range(1, 8)] + [EIGHT[::-1], list(EIGHT), AXES + AXES]
        wrong += [((2, 0), (0, 2), (-2, 0), (0, -2)), ((1, 0), (0, 2), (-1, 0), (0, -2)), ((1, 0), (0, 1), (-1, 0), (0, 0))]
        wrong += [((1, 0), (-1, 0)), ((0, 1), (0, -1)), ((1, 0), (0, 1), (-1, 0)), AXES[:3] + ([0, -1],)]
        wrong += [((1, 0), (0, 1), (-1, 0), (False, -1)), ((True, 0), (0, 1), (-1, 0), (0, -1)), AXES[:3] + ((0, -1.0),)]
        wrong += [((1, 0, 0),) + AXES[1:], AXES[:3] + (None,), ((1, 0), (1, 1), (0, 1), (-1, 0), (0, -1))]
        for value in wrong + list(ODD):
            self.assertIs(is_ring(STAY, ORIGIN, value), False, value)

    def test_parameters(self):
        for call, rest in ((ring_of, ()), (is_ring, (AXES,)), (living_size, (None,))):
            self.refused(BadRule(()), call, None, None, *rest)
            self.refused(BadRule((1,)), call, (((1, 0),), ((0, 0),)), None, *rest)
            for point in ((0, 0, 2), (0, 0), (0, 0, 0), None, [0, 0, 1], (True, 0, 1), (MOST + 1, 0, 1)):
                self.refused(BadPoint(point), call, TWO, point, *rest)
        self.refused(NoRow(), ring_of, STAY, (MOST, -MOST, 1))
        moved = (((-20, 20),),)
        self.assertIs(is_ring(moved, (20, -20, 1), ring_of(moved, (20, -20, 1))), True)


class Polygons(Case):

    def test_examples(self):
        self.assertEqual(frame_corners(AXES, 1), ((0, 0), (0, 1), (-1, 1), (-1, 0)))
        self.assertEqual(living_island(frame=AXES, size=1), ((-1, 0), (-1, 1), (0, 0), (0, 1)))
        self.assertEqual(frame_corners(frame=SKEW, size=2), ((0, 0), (-2, 4), (-6, 2), (-4, -2)))
        self.assertEqual(living_at(AXES, 1, HALF_LEFT, 1), ((-1, 0), (-1, 1)))
        self.assertEqual(living_at(frame=AXES, size=1, point=HALF_LEFT, times=2), ((-2, 0), (-2, 1), (-1, 0), (-1, 1)))

    def test_corners_close(self):
        for draw in drawings(40, 122):
            frame, size = drawn_frame(draw, 4), draw.choice((1, 2, SIZE))
            corners = frame_corners(frame, size)
            self.assertEqual(len(corners), len(frame))
            for (p, q), (a, b) in zip(cones(corners), frame):
                self.assertEqual((q[0] - p[0], q[1] - p[1]), (-size * b, size * a))
            self.assertEqual(corners[0], (0, 0))
        far = in_turn([*AXES, (MOST, 1), (-MOST, -1)])
        self.assertEqual(frame_corners(far, SIZE)[2], (-SIZE, SIZE * (MOST + 1)))

    def test_against_all_places_of_a_board(self):
        kinds = set()
        for draw in drawings(60, 123):
            frame, size = drawn_frame(draw, 2), draw.randint(1, 2)
            point, times = drawn_point(draw, 2, 3), draw.randint(0, 4)
            for sides, made in ((plain_sides(frame, size), outcome(living_island, frame, size)),
                                (plain_sides(frame, size, point, times), outcome(living_at, frame, size, point, times))):
                wanted = plain_places(sides)
                kinds.add(len(wanted) > 400)
                self.assertEqual(made, wanted if len(wanted) <= 400 else (TooGreat, {"most": 400}))
        self.assertIn(False, kinds)

    def test_far_away(self):
        for point, times in (((MOST, -MOST, 1), OFTEN), ((1, MOST - 1, MOST), OFTEN), ((-1, 2, 3), OFTEN - 1)):
            found = living_at(EIGHT, 2, point, times)
            x, y = fraction_point(point)
            whole = (int(times * x // 1), int(times * y // 1))
            near = {(a - whole[0], b - whole[1]) for a, b in found}
            left = (Fraction(times) * x - whole[0], Fraction(times) * y - whole[1])
            self.assertEqual(near, set(plain_places(plain_sides(EIGHT, 2, told_point(*left), 1))))
            self.assertEqual(found, tuple(sorted(found)))

    def test_nothing_inside(self):
        # Of a slanted square two places wide nothing is left if it lies between the places: no, but of a thin one.
        thin = in_turn([(1, 0), (-1, 0), (1, 9), (-1, -9)])
        self.assertEqual(plain_places(plain_sides(thin, 1, (1, 0, 2), 1)), living_at(thin, 1, (1, 0, 2), 1))
        self.assertEqual(living_at(AXES, 1, (1, 1, 2), 1), ((0, 1),))

    def test_too_great(self):
        self.assertEqual(len(living_island(AXES, 19)), 400)
        self.refused(TooGreat(400), living_island, AXES, 20)
        self.refused(TooGreat(400), living_at, AXES, 20, ORIGIN, 0)
        # Moved by halves it has one place less each way.
        self.assertEqual(len(living_at(AXES, 20, (1, 1, 2), 1)), 400)
        self.refused(TooGreat(400), living_at, AXES, 20, (1, 0, 2), 1)
        # 400 wide or high, and one more, with few places inside.
        flat = in_turn([(1, 399), (-1, -399), (0, 1), (0, -1)])
        met = frame_corners(flat, 1)
        self.assertEqual(max(x for x, y in met) - min(x for x, y in met), 400)
        self.assertEqual(living_island(flat, 1), plain_wide(flat))
        for wide in ([(1, 400), (-1, -400), (0, 1), (0, -1)], [(400, 1), (-400, -1), (1, 0), (-1, 0)]):
            self.refused(TooGreat(400), living_island, in_turn(wide), 1)
            self.refused(TooGreat(400), living_at, in_turn(wide), 1, (1, 0, 3), 1)
        high = in_turn([(399, 1), (-399, -1), (1, 0), (-1, 0)])
        self.assertEqual(len(living_island(high, 1)), len(living_island(flat, 1)))
        self.refused(TooGreat(400), living_island, AXES, SIZE)
        self.refused(TooGreat(400), living_at, AXES, SIZE, ORIGIN, 0)

    def test_order_of_parameters(self):
        bad = (None, AXES[:3], list(AXES), AXES[1:] + AXES[:1], (), EIGHT[:7], ((2, 0),) + AXES[1:])
        sizes = (0, -1, SIZE + 1, True, False, None, 1.0, "1", (1,))
        for frame in bad + ODD:
            self.refused(BadParameter(frame), frame_corners, frame, None)
            self.refused(BadParameter(frame), living_island, frame, None)
            self.refused(BadParameter(frame), living_at, frame, None, None, None)
        for size in sizes:
            self.refused(BadParameter(size), frame_corners, AXES, size)
            self.refused(BadParameter(size), living_island, AXES, size)
            self.refused(BadParameter(size), living_at, AXES, size, None, None)
        for point in (None, (0, 0), (0, 0, 2), [0, 0, 1]):
            self.refused(BadPoint(point), living_at, AXES, SIZE, point, None)
        for times in (-1, OFTEN + 1, True, None, 1.0):
            self.refused(BadParameter(times), living_at, AXES, SIZE, ORIGIN, times)
        self.assertEqual(len(living_at(AXES, 1, ORIGIN, OFTEN)), 4)


def plain_wide(frame):
    sides = plain_sides(frame, 1)
    return tuple((x, y) for x in range(-401, 402) for y in range(-5, 6) if all(u[0] * x + u[1] * y <= s for u, s in sides))


class LivingSize(Case):

    def test_examples(self):
        self.assertEqual(living_size(LEFT, HALF_LEFT, AXES), 1)
        self.assertEqual(living_size(rule=STAY, point=ORIGIN, ring=EIGHT), 1)
        self.assertEqual(living_size(FOUR, ORIGIN, EIGHT), 2)
        # R is 5 / 3 and 4 / 3 for (1, 0) and (-1, 0).
        self.assertEqual(living_size((((-1, 0),), ((2, 0),)), (-1, 0, 3), AXES), 3)

    def test_drawn_ones(self):
        sizes = set()
        for draw in drawings(150, 124):
            rule = drawn_rule(draw, 5, 2, 2)
            for point in core(rule):
                ring = ring_of(rule, point)
                size = living_size(rule, point, ring)
                sizes.add(min(size, 9))
                self.assertEqual(size, plain_size(rule, point, ring))
        self.assertTrue({1, 2, 3, 4} <= sizes)

    def test_many_directions(self):
        for draw in drawings(6, 125):
            # The ring of a rule of one place may have any directions.
            place = (draw.randint(-20, 20), draw.randint(-20, 20))
            for ring in (AXES, EIGHT, SKEW, drawn_frame(draw, 4), long_frame(400), long_frame(20)):
                self.assertEqual(living_size((((-place[0], -place[1]),),), place + (1,), ring), 1)
            rule = tuple(((x, 0),) for x in range(-3, 4))
            for ring in (AXES, EIGHT, in_turn([*AXES, (1, 3), (-1, -3)])):
                self.assertEqual(living_size(rule, ORIGIN, ring), plain_size(rule, ORIGIN, ring))

    def test_above_all_sizes(self):
        far = in_turn([*AXES, (MOST, 1), (-MOST, -1)])
        self.assertEqual(living_size(FOUR, ORIGIN, far), 2 * MOST)

    def test_rings_that_are_none(self):
        for ring in (None, (), AXES[:3], list(AXES), SKEW) + ODD:
            if ring != SKEW:
                self.refused(BadParameter(ring), living_size, LEFT, HALF_LEFT, ring)
        self.refused(BadParameter(AXES), living_size, LEFT, (1, 0, 1), AXES)
        self.refused(BadParameter(AXES), living_size, TWO, ORIGIN, AXES)


class Lives(Case):

    def test_all_places_of_the_polygon_moved(self):
        whole = 0
        for draw in drawings(60, 126):
            rule = drawn_rule(draw, 5, 2, 1)
            for point in core(rule)[:2]:
                ring = ring_of(rule, point)
                size = living_size(rule, point, ring)
                marks = set(plain_places(plain_sides(ring, size), 60))
                if outcome(living_island, ring, size) == (TooGreat, {"most": 400}):
                    continue
                self.assertEqual(set(living_island(ring, size)), marks)
                for n in range(1, 6):
                    marks = step(rule, marks)
                    self.assertTrue(marks)
                    self.assertTrue(set(living_at(ring, size, point, n)) <= marks)
                if point[2] == 1:
                    whole += 1
                    self.assertIs(holds_moved(rule, living_island(ring, size), point[:2]), True)
        self.assertGreater(whole, 30)

    def test_holds_moved(self):
        self.assertIs(holds_moved(rule=LEFT, island=((0, 0), (5, 5)), place=(-1, 0)), True)
        self.assertIs(holds_moved(LEFT, ((0, 0), (5, 5)), (1, 0)), False)
        self.assertIs(holds_moved(LEFT, ((0, 0), (1, 0)), (0, 0)), True)
        self.assertIs(holds_moved(TWO, ((0, 0), (0, 1), (1, 0)), (0, 0)), False)
        self.assertIs(holds_moved(TWO, (), (3, 3)), True)
        kinds = set()
        for draw in drawings(200, 127):
            rule, island = drawn_rule(draw, 4, 2, 1), drawn_island(draw, 8, 2)
            place = (draw.randint(-1, 1), draw.randint(-1, 1))
            wanted = {(x + place[0], y + place[1]) for x, y in island} <= step(rule, set(island))
            kinds.add((wanted, bool(island)))
            self.assertIs(holds_moved(rule, island, place), wanted)
        self.assertTrue({(True, True), (False, True), (True, False)} <= kinds)

    def test_however_many_marks(self):
        island = tuple((x, y) for x in range(20) for y in range(20))
        rule = tuple(((x, 0),) for x in range(-20, 20))
        self.assertIs(holds_moved(rule, island, (20, 0)), True)
        self.assertIs(holds_moved(rule, island, (21, 0)), False)
        self.assertIs(holds_moved(rule, island, (-19, 0)), True)
        self.assertIs(holds_moved(rule, island, (-20, 0)), False)
        self.assertIs(holds_moved(STAY, ((10 ** 9, 0),), (10 ** 9, 0)), False)

    def test_holds_moved_parameters(self):
        wrong = ((1, 0), (0, 0))
        self.refused(BadRule(()), holds_moved, None, wrong, None)
        self.refused(BadIsland(wrong), holds_moved, LEFT, wrong, None)
        for place in ((10 ** 9 + 1, 0), None, [0, 0], (0, True)):
            self.refused(BadPlace(place), holds_moved, LEFT, (), place)

    def test_square_and_others(self):
        for rule in (SQUARE, FOUR, LEFT):
            for point in core(rule) + (ORIGIN,):
                ring = ring_of(rule, point)
                size = living_size(rule, point, ring)
                self.assertEqual(size, plain_size(rule, point, ring))
                self.assertIs(in_core(rule, point), True)
                self.assertLess(len(living_island(ring, size)), 60)
        self.assertEqual(plain((FAR, FAR)), (1, 1))


if __name__ == "__main__":
    unittest.main()
