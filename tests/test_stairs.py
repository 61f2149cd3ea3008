"""[34], [35], [36] Corners."""

import itertools
import unittest

from allislands.errors import BadDirection, BadParameter, BadPlace, BadRule, BadStair, NoRow, TooGreat, Unlike
from allislands.islands import need_island
from allislands.rules import need_rule
from allislands.stairs import corner_after, corner_island, is_corner_kept, need_stair, stair_common, stair_holds
from allislands.stairs import stair_joined, stair_moved, stair_of, stair_steps, stair_stepped
from tests.tools import FAN_61, FAR, LEFT, MOST, ODD, OFTEN, STAY, TWO, Case, across, drawings, drawn_rule, outcome
from tests.tools import plain_speed, step

RIGHT, UP = (1, 0), (0, 1)
ONE = ((0, 0),)
STEEP = tuple((k, -k) for k in range(60))
REFUSED = (TooGreat, {"most": 60})
WAYS = [(u, v) for u in itertools.product(range(-2, 3), repeat=2) for v in itertools.product(range(-2, 3), repeat=2)
        if across(u, v) in (1, -1)]
NO_STAIRS = (
    (), [(0, 0)], [], ([0, 0],), ((0, 0), [1, -1]), ((0,),), ((0, 0, 0),), ((True, 0),), ((0, False),), ((0.0, 0),),
    ((0, 0), (0, 0)), ((0, 0), (0, -1)), ((0, 0), (1, 0)), ((0, 0), (1, 1)), ((1, 0), (0, 1)), ((0, 0), (-1, -1)),
    ((0, 5), (1, 3), (2, 4)), ((0, 5), (2, 4), (1, 3)), ((MOST + 1, 0),), ((0, -MOST - 1),), (None,), 5, None,
    tuple((k, -k) for k in range(61)), ((-2, 0), (-1, -1), (0, -1)), ((0, 2), (0, 1)), (0, 0))


def marked(u, v, stair, place):
    """Whether some corner's both half planes hold a place."""
    x, y = (u[0] * place[0] + u[1] * place[1], v[0] * place[0] + v[1] * place[1])
    return any(x <= c and y <= d for c, d in stair)


def told_stair(corners):
    """The corners that no other one has within it, the first numbers rising."""
    unlike = set(corners)
    return tuple(sorted(p for p in unlike if not any(q != p and p[0] <= q[0] and p[1] <= q[1] for q in unlike)))


def drawn_stair(draw, most=5, size=4):
    return told_stair([(draw.randint(-size, size), draw.randint(-size, size)) for _ in range(draw.randint(1, most))])


def common_of(one, other):
    return told_stair([(min(a, c), min(b, d)) for a, b in one for c, d in other])


def plain_step(rule, u, v, stair):
    """A step in the document's words, and whether more than 60 corners come at any time."""
    made, great = [], False
    for need in rule:
        parts = [tuple((c - u[0] * a - u[1] * b, d - v[0] * a - v[1] * b) for c, d in stair) for a, b in need]
        led = parts[0]
        for part in parts[1:]:
            led = common_of(led, part)
            great = great or len(led) > 60
        made = told_stair(list(made) + list(led))
        great = great or len(made) > 60
    return REFUSED if great else made


class Stairs(Case):

    def test_stairs(self):
        for stair in (ONE, STEEP, ((-MOST, MOST), (MOST, -MOST)), ((MOST, MOST),), ((-MOST, -MOST),), ((-2, 0), (-1, -1))):
            self.assertIs(need_stair(stair), stair)
            self.assertIs(need_stair(value=stair), stair)
        for value in NO_STAIRS + ODD:
            self.refused(BadStair(value), need_stair, value)
            self.refused(BadStair(value), stair_joined, value, None)
            self.refused(BadStair(value), stair_common, value, None)
            self.refused(BadStair(value), stair_joined, ONE, value)
            self.refused(BadStair(value), stair_common, ONE, value)
            self.refused(BadStair(value), stair_holds, RIGHT, UP, value, None)
            self.refused(BadStair(value), stair_moved, RIGHT, UP, value, None)
            self.refused(BadStair(value), stair_stepped, TWO, RIGHT, UP, value)
            self.refused(BadStair(value), stair_steps, TWO, RIGHT, UP, value, None)
            self.refused(BadStair(value), corner_island, RIGHT, UP, value, None)

    def test_stair_of(self):
        self.assertEqual(stair_of(((0, 0),)), ONE)
        self.assertEqual(stair_of(corners=((3, 1), (0, 0), (1, 3), (3, 1), (2, 1), (3, 0), (2, 2))), ((1, 3), (2, 2), (3, 1)))
        self.assertEqual(stair_of(STEEP[::-1]), STEEP)
        self.assertEqual(stair_of(((MOST, -MOST), (-MOST, MOST))), ((-MOST, MOST), (MOST, -MOST)))
        for draw in drawings(100, 150):
            corners = tuple((draw.randint(-5, 5), draw.randint(-5, 5)) for _ in range(draw.randint(1, 12)))
            stair = stair_of(corners)
            self.assertEqual(stair, told_stair(corners))
            self.assertEqual(need_stair(stair), stair)
            for pair in itertools.product(range(-6, 7), repeat=2):
                self.assertEqual(marked(RIGHT, UP, stair, pair), marked(RIGHT, UP, corners, pair))
        wrong = [(), [(0, 0)], tuple((k, -k) for k in range(61)), (None,), ((0, 0), [1, 1]), ((0, 0), (0, True)),
                 ((0, 0), (0, MOST + 1)), ((-MOST - 1, 0),), ((0, 0, 0),), ((0, 0), (1.0, 0)), (0, 0)]
        for corners in wrong + list(ODD):
            self.refused(BadStair(corners), stair_of, corners)

    def test_holds(self):
        self.assertIs(stair_holds(u=RIGHT, v=UP, stair=ONE, place=(0, 0)), True)
        self.assertIs(stair_holds(RIGHT, UP, ONE, (1, 0)), False)
        self.assertIs(stair_holds(RIGHT, UP, ONE, (0, 1)), False)
        self.assertIs(stair_holds((FAR, FAR - 1), (1, 1), ((MOST, -MOST), ), (-10 ** 9, 10 ** 9)), False)
        for draw in drawings(60, 151):
            (u, v), stair = draw.choice(WAYS), drawn_stair(draw)
            for place in itertools.product(range(-5, 6), repeat=2):
                self.assertIs(stair_holds(u, v, stair, place), marked(u, v, stair, place))

    def test_moved(self):
        self.assertEqual(stair_moved(u=RIGHT, v=UP, stair=STEEP[:2], place=(3, -4)), ((3, -4), (4, -5)))
        self.assertEqual(stair_moved((1, 1), UP, ONE, (10 ** 9, -10 ** 9)), ((0, -10 ** 9),))
        for draw in drawings(60, 152):
            (u, v), stair = draw.choice(WAYS), drawn_stair(draw)
            a, b = draw.randint(-3, 3), draw.randint(-3, 3)
            made = stair_moved(u, v, stair, (a, b))
            for x, y in itertools.product(range(-5, 6), repeat=2):
                self.assertEqual(marked(u, v, made, (x + a, y + b)), marked(u, v, stair, (x, y)))

    def test_joined_and_common(self):
        self.assertEqual(stair_joined(one=((0, 0),), other=((1, -1),)), ((0, 0), (1, -1)))
        self.assertEqual(stair_common(one=((0, 0),), other=((1, -1),)), ((0, -1),))
        self.assertEqual(stair_common(((0, 3), (5, 0)), ((2, 2), (9, -9))), ((0, 2), (2, 0), (5, -9)))
        for draw in drawings(120, 153):
            (u, v), one, other = draw.choice(WAYS), drawn_stair(draw, 7), drawn_stair(draw, 7)
            joined, common = stair_joined(one, other), stair_common(one, other)
            self.assertEqual(joined, told_stair(one + other))
            self.assertEqual(common, common_of(one, other))
            self.assertEqual((need_stair(joined), need_stair(common)), (joined, common))
            for place in itertools.product(range(-4, 5), repeat=2):
                both = (marked(u, v, one, place), marked(u, v, other, place))
                self.assertEqual(marked(u, v, joined, place), any(both))
                self.assertEqual(marked(u, v, common, place), all(both))

    def test_more_than_60(self):
        wide = tuple((2 * k, -2 * k) for k in range(31))
        other = tuple((2 * k + 1, -2 * k - 1) for k in range(30))
        self.refused(TooGreat(60), stair_joined, wide, other)
        self.assertEqual(len(stair_joined(wide, other[1:])), 60)
        self.assertEqual(len(stair_joined(wide[1:], other)), 60)
        longer = tuple((2 * k + 1, -2 * k - 1) for k in range(31))
        self.assertEqual(common_of(wide, longer), tuple((k, -k - 1) for k in range(61)))
        self.refused(TooGreat(60), stair_common, wide, longer)
        self.refused(TooGreat(60), stair_common, longer, wide)
        self.assertEqual(stair_common(wide, other), tuple((k, -k - 1) for k in range(60)))
        self.assertEqual(len(stair_common(wide[1:], longer)), 60)
        self.assertEqual(stair_joined(STEEP, STEEP), STEEP)
        self.assertEqual(stair_common(STEEP, STEEP), STEEP)
        # One corner that has all the others within it.
        self.assertEqual(stair_joined(STEEP, ((100, 100),)), ((100, 100),))
        self.assertEqual(stair_common(STEEP, ((-100, -100),)), ((-100, -100),))

    def test_directions(self):
        calls = ((stair_holds, (), (None, None)), (stair_moved, (), (None, None)), (stair_stepped, (TWO,), (None,)),
                 (stair_steps, (TWO,), (None, None)), (is_corner_kept, (TWO,), ()), (corner_after, (TWO,), (None,)),
                 (corner_island, (), (None, None)))
        for call, ahead, rest in calls:
            for u in ((0, 0), (FAR + 1, 1), None, [1, 0], (True, 0), (1,)):
                self.refused(BadDirection(u), call, *ahead, u, None, *rest)
                self.refused(BadDirection(u), call, *ahead, RIGHT, u, *rest)
            for u, v, n in ((RIGHT, RIGHT, 0), (RIGHT, (-1, 0), 0), ((2, 0), UP, 2), (UP, (2, 5), -2), ((1, 2), (3, 4), -2),
                            ((FAR, 0), (0, FAR), FAR * FAR), ((2, 2), (1, 1), 0), ((1, 3), (2, 9), 3)):
                self.refused(Unlike(n), call, *ahead, u, v, *rest)
        for u, v in WAYS + [((FAR, FAR - 1), (1, 1)), ((1, FAR), (0, -1))]:
            self.assertIs(stair_holds(u, v, ((MOST, MOST),), (10 ** 9, 10 ** 9)), True)
        for place in ((10 ** 9 + 1, 0), None, [0, 0]):
            self.refused(BadPlace(place), stair_holds, RIGHT, UP, ONE, place)
            self.refused(BadPlace(place), stair_moved, RIGHT, UP, ONE, place)


class Steps(Case):

    def test_examples(self):
        self.assertEqual(stair_stepped(TWO, RIGHT, UP, ONE), ((-1, 0), (0, -1)))
        self.assertEqual(stair_steps(TWO, RIGHT, UP, ONE, 2), ((-2, 0), (-1, -1), (0, -2)))
        self.assertEqual(stair_steps(rule=TWO, u=RIGHT, v=UP, stair=ONE, times=0), ONE)
        self.assertEqual(len(stair_steps(TWO, RIGHT, UP, ONE, 59)), 60)
        self.refused(TooGreat(60), stair_steps, TWO, RIGHT, UP, ONE, 60)
        self.assertEqual(stair_steps(LEFT, (-1, 0), UP, ONE, 60), ((60, 0),))

    def test_place_by_place(self):
        for draw in drawings(60, 154):
            rule, (u, v), stair = drawn_rule(draw, 4, 3, 1), draw.choice(WAYS), drawn_stair(draw, 4, 3)
            made = stair_stepped(rule=rule, u=u, v=v, stair=stair)
            self.assertEqual(made, plain_step(rule, u, v, stair))
            self.assertEqual(need_stair(made), made)
            for x, y in itertools.product(range(-5, 6), repeat=2):
                wanted = any(all(marked(u, v, stair, (x + a, y + b)) for a, b in need) for need in rule)
                self.assertEqual(marked(u, v, made, (x, y)), wanted)

    def test_many_steps(self):
        for draw in drawings(40, 155):
            rule, (u, v), stair = drawn_rule(draw, 4, 3, 2), draw.choice(WAYS), drawn_stair(draw, 4, 3)
            times, wanted = draw.randint(0, 12), stair
            for _ in range(times):
                if wanted != REFUSED:
                    wanted = plain_step(rule, u, v, wanted)
            self.assertEqual(outcome(stair_steps, rule, u, v, stair, times), wanted)

    def test_too_many_corners_on_the_way(self):
        wide = tuple((2 * k, -2 * k) for k in range(31))
        kinds = set()
        for need in (((-1, -1), (0, 0), (0, 20)), ((-1, -1), (0, 0)), ((-1, 0), (0, 0)), ((0, 0), (1, 1)), ((-20, 0), (0, 0), (1, 1)),
                     ((-1, 1), (0, 0)), ((0, 0), (1, -1), (2, 20)), ((0, 0), (0, 20), (1, 1))):
            for stair in (wide, STEEP, tuple((k, -2 * k) for k in range(60)), tuple((2 * k, 5 - k) for k in range(31))):
                for rule in ((need,), tuple(sorted((need, ((20, 20),)))), tuple(sorted((need, ((-20, -20),))))):
                    wanted = plain_step(need_rule(rule), RIGHT, UP, stair)
                    kinds.add(wanted == REFUSED)
                    self.assertEqual(outcome(stair_stepped, rule, RIGHT, UP, stair), wanted)
        self.assertEqual(kinds, {True, False})

    def test_from_within_in_order(self):
        wide, back = tuple((2 * k, -2 * k) for k in range(31)), ((-1, 0), (0, -1))
        # The last need marks all that the others do, and more: but these have too many corners ahead of it.
        rule = (((0, 0),), ((1, -1),), ((20, 20),))
        self.refused(TooGreat(60), stair_stepped, rule, *back, wide)
        about = (((-20, -20),), ((-1, 1),), ((0, 0),))
        self.assertEqual(stair_stepped(about, RIGHT, UP, wide), tuple((c + 20, d + 20) for c, d in wide))
        # So with the places of one need.
        need = (((0, 0), (1, -1), (20, 20)),)
        self.refused(TooGreat(60), stair_stepped, need, RIGHT, UP, wide)
        about = (((-20, -20), (-1, 1), (0, 0)),)
        self.assertEqual(stair_stepped(about, *back, wide), plain_step(about, *back, wide))
        for told in (rule, need):
            self.assertEqual(plain_step(told, *(back if told is rule else (RIGHT, UP)), wide), REFUSED)

    def test_parameters(self):
        for call, rest in ((stair_stepped, (None,)), (stair_steps, (None, None)), (is_corner_kept, ()), (corner_after, (None,))):
            self.refused(BadRule(()), call, None, None, None, *rest)
            self.refused(BadRule((1,)), call, (((1, 0),), ((0, 0),)), None, None, *rest)
        for times in (-1, 61, True, False, None, 1.0):
            self.refused(BadParameter(times), stair_steps, TWO, RIGHT, UP, ONE, times)
        self.assertEqual(stair_steps(STAY, RIGHT, UP, STEEP, 60), STEEP)
        self.assertEqual(stair_stepped(STAY, RIGHT, UP, ((MOST, MOST),)), ((MOST, MOST),))


class KeptCorners(Case):

    def test_examples(self):
        self.assertIs(is_corner_kept(TWO, RIGHT, UP), False)
        self.assertIs(is_corner_kept(rule=LEFT, u=RIGHT, v=UP), True)
        self.assertEqual(corner_after(rule=LEFT, u=(-1, 0), v=UP, times=OFTEN), ((OFTEN, 0),))
        self.assertEqual(corner_after(LEFT, (-1, 0), UP, 0), ONE)
        self.refused(NoRow(), corner_after, TWO, RIGHT, UP, 0)
        self.refused(NoRow(), corner_after, TWO, RIGHT, UP, OFTEN)

    def test_drawn_ones(self):
        kinds = set()
        for draw in drawings(250, 156):
            rule, (u, v) = drawn_rule(draw, 3, 3, 2), draw.choice(WAYS)
            behind = plain_step(rule, u, v, ONE)
            kept = len(behind) == 1
            kinds.add(kept)
            self.assertIs(is_corner_kept(rule, u, v), kept)
            speeds = (plain_speed(rule, u), plain_speed(rule, v))
            held = any(speeds == tuple(min(-w[0] * a - w[1] * b for a, b in need) for w in (u, v)) for need in rule)
            self.assertEqual(kept, held)
            self.assertEqual((behind[-1][0], behind[0][1]), speeds)
            for n in (0, 1, 2, 9, OFTEN):
                wanted = ((n * speeds[0], n * speeds[1]),)
                self.assertEqual(outcome(corner_after, rule, u, v, n), wanted if kept else (NoRow, {}))
                if kept and n < 10:
                    self.assertEqual(stair_steps(rule, u, v, ONE, n), wanted)
        self.assertEqual(kinds, {True, False})

    def test_great_rules(self):
        self.assertEqual(is_corner_kept(FAN_61, RIGHT, UP), len(plain_step(FAN_61, RIGHT, UP, ONE)) == 1)
        row = tuple(((-k, k),) for k in range(20, -21, -1))
        self.assertEqual(len(stair_stepped(need_rule(row), RIGHT, UP, ONE)), 41)
        self.assertIs(is_corner_kept(row, RIGHT, UP), False)

    def test_parameters(self):
        for times in (-1, OFTEN + 1, True, False, None, 1.0, "1"):
            self.refused(BadParameter(times), corner_after, TWO, RIGHT, UP, times)
            self.refused(BadParameter(times), corner_after, LEFT, RIGHT, UP, times)


class Windows(Case):

    def test_examples(self):
        self.assertEqual(corner_island(RIGHT, UP, ONE, 1), ((0, 0),))
        self.assertEqual(corner_island(u=RIGHT, v=UP, stair=ONE, size=2), ((-1, -1), (-1, 0), (0, -1), (0, 0)))
        self.assertEqual(corner_island(RIGHT, UP, ((-1, 0), (0, -1)), 2), ((-1, -1), (-1, 0), (0, -1)))
        self.assertEqual(corner_island(RIGHT, UP, ((-1, 0), (0, -1)), 1), ())
        far = 10 ** 59
        self.assertEqual(corner_island((3, 2), (1, 1), ((far, far),), 1), ((-far, 2 * far),))
        self.assertEqual(corner_island((1, 1), (3, 2), ((far, far),), 1), ((-far, 2 * far),))

    def test_drawn_ones(self):
        for draw in drawings(80, 157):
            (u, v), stair, size = draw.choice(WAYS), drawn_stair(draw, 4, 2), draw.randint(1, 5)
            wanted = []
            for x, y in itertools.product(range(-35, 36), repeat=2):
                c, d = u[0] * x + u[1] * y, v[0] * x + v[1] * y
                if marked(u, v, stair, (x, y)) and c > stair[-1][0] - size and d > stair[0][1] - size:
                    wanted.append((x, y))
            self.assertEqual(corner_island(u, v, stair, size), tuple(wanted))
            self.assertEqual(need_island(tuple(wanted)), tuple(wanted))

    def test_a_step_leads_it_as_the_stair(self):
        for draw in drawings(40, 158):
            rule, (u, v), stair = drawn_rule(draw, 3, 2, 1), draw.choice(WAYS), drawn_stair(draw, 3, 2)
            size = 14
            island = outcome(corner_island, u, v, stair, size)
            if island == (TooGreat, {"most": 400}):
                continue
            behind, led = step(rule, set(island)), stair_stepped(rule, u, v, stair)
            for x, y in itertools.product(range(-3, 4), repeat=2):
                asked = {(x + a, y + b) for need in rule for a, b in need}
                pairs = [(u[0] * a + u[1] * b, v[0] * a + v[1] * b) for a, b in asked]
                if all(c > stair[-1][0] - size and d > stair[0][1] - size for c, d in pairs):
                    self.assertEqual((x, y) in behind, marked(u, v, led, (x, y)))

    def test_400_places(self):
        self.assertEqual(len(corner_island(RIGHT, UP, ONE, 20)), 400)
        self.refused(TooGreat(400), corner_island, RIGHT, UP, ONE, 21)
        self.refused(TooGreat(400), corner_island, (5, 2), (2, 1), ONE, 60)
        # 21 times 21 places, less 41 and less 40 at the greatest corner.
        self.assertEqual(len(corner_island(RIGHT, UP, ((-6, 0), (-5, -1), (0, -8)), 21)), 400)
        self.refused(TooGreat(400), corner_island, RIGHT, UP, ((-5, 0), (0, -8)), 21)
        self.refused(TooGreat(400), corner_island, RIGHT, UP, ONE, 60)
        self.refused(TooGreat(400), corner_island, RIGHT, UP, STEEP, 60)
        self.assertEqual(len(corner_island(RIGHT, UP, STEEP[:27], 27)), 27 * 28 // 2)

    def test_sizes(self):
        for size in (0, 61, -1, True, False, None, 1.0, "1", (1,)):
            self.refused(BadParameter(size), corner_island, RIGHT, UP, ONE, size)
        self.assertEqual(corner_island(RIGHT, UP, ((0, 0), (59, -59)), 60), tuple(sorted(
            [(0, -k) for k in range(60)] + [(k, -59) for k in range(1, 60)])))


if __name__ == "__main__":
    unittest.main()
