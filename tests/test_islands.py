"""[2], [8], [9] Islands."""

import unittest

from allislands.errors import (BadDirection, BadIsland, BadParameter, BadPlace, NoRow, TooGreat)
from allislands.islands import (box, common, joined, need_island, reach, shifted, within, without)
from tests.tools import ODD, Case, drawings, drawn_island

BIG = 10 ** 9
ROW = tuple((k, 0) for k in range(400))
BAD = ODD + (ROW + ((400, 0),), ((1, 0), (0, 0)), ((0, 0), (0, 0)), ((0, 0), (1, 0), (1, 0)), ((0, 1), (0, 0)),
             ((0, 0), (1, 0, 0)), [(0, 0)], ((0, 0), None), ((BIG + 1, 0),), ((0, -BIG - 1),), ((0, True),))


class Values(Case):

    def test_islands(self):
        for island in ((), ((0, 0),), ((-BIG, BIG), (BIG, -BIG)), ((0, 0), (0, 1), (1, -5)), ROW):
            self.assertEqual(need_island(island), island)
            self.assertEqual(need_island(value=island), island)

    def test_what_is_no_island(self):
        for value in BAD:
            self.refused(BadIsland(value), need_island, value)

    def test_every_parameter_is_checked(self):
        bad = ((1, 0), (0, 0))
        for call in (joined, common, without, within):
            self.refused(BadIsland(bad), call, bad, None)
            self.refused(BadIsland(bad), call, (), bad)
            self.refused(BadIsland(bad), call, other=bad, one=())
        self.refused(BadIsland(bad), shifted, bad, None)
        self.refused(BadPlace((0, BIG + 1)), shifted, (), (0, BIG + 1))
        self.refused(BadIsland(bad), reach, bad, None)
        self.refused(BadDirection((0, 0)), reach, (), (0, 0))
        self.refused(BadIsland(None), joined, ROW, None)


class Sets(Case):

    def test_shifted(self):
        self.assertEqual(shifted(((0, 0), (1, -2)), (3, 4)), ((3, 4), (4, 2)))
        self.assertEqual(shifted(island=(), place=(3, 4)), ())
        self.assertEqual(shifted(((BIG, -BIG),), (BIG, -BIG)), ((2 * BIG, -2 * BIG),))
        self.refused(BadIsland(((2 * BIG, 0),)), need_island, shifted(((BIG, 0),), (BIG, 0)))

    def test_box(self):
        self.assertEqual(box(1, 1), ((0, 0),))
        self.assertEqual(box(width=2, height=3), ((0, 0), (0, 1), (0, 2), (1, 0), (1, 1), (1, 2)))
        self.assertEqual(box(400, 1), ROW)
        self.assertEqual(box(1, 400), tuple((0, k) for k in range(400)))
        self.assertEqual(len(box(20, 20)), 400)
        self.assertEqual(box(20, 20)[-1], (19, 19))

    def test_box_refuses(self):
        for bad in (0, -1, 401, True, 1.0, "1", None):
            self.refused(BadParameter(bad), box, bad, 402)
            self.refused(BadParameter(bad), box, 400, bad)
        for width, height in ((20, 21), (21, 20), (400, 2), (2, 201), (400, 400)):
            self.refused(TooGreat(400), box, width, height)

    def test_two_that_touch_lie_apart_are_the_same_or_are_nothing(self):
        one, other, far = ((0, 0), (1, 0)), ((1, 0), (2, 0)), ((9, 9),)
        self.assertEqual(joined(one, other), ((0, 0), (1, 0), (2, 0)))
        self.assertEqual(joined(one=far, other=one), ((0, 0), (1, 0), (9, 9)))
        self.assertEqual(common(one, other), ((1, 0),))
        self.assertEqual(common(one=one, other=far), ())
        self.assertEqual(without(one, other), ((0, 0),))
        self.assertEqual(without(one=other, other=one), ((2, 0),))
        self.assertEqual(without(one, far), one)
        self.assertIs(within(((1, 0),), one), True)
        self.assertIs(within(one=one, other=((1, 0),)), False)
        self.assertEqual((joined(one, one), common(one, one), without(one, one)), (one, one, ()))
        self.assertIs(within(one, one), True)
        self.assertEqual((joined((), one), joined(one, ()), joined((), ())), (one, one, ()))
        self.assertEqual((common((), one), common(one, ())), ((), ()))
        self.assertEqual((without((), one), without(one, ())), ((), one))
        self.assertEqual((within((), one), within(one, ()), within((), ())), (True, False, True))

    def test_drawn_ones(self):
        for draw in drawings(200, 3):
            one, other = drawn_island(draw, 30, 3), drawn_island(draw, 30, 3)
            self.assertEqual(joined(one, other), tuple(sorted(set(one) | set(other))))
            self.assertEqual(common(one, other), tuple(sorted(set(one) & set(other))))
            self.assertEqual(without(one, other), tuple(sorted(set(one) - set(other))))
            self.assertIs(within(one, other), set(one) <= set(other))

    def test_joined_of_more_than_400(self):
        self.assertEqual(joined(ROW[:399], ((399, 0),)), ROW)
        self.assertEqual(joined(ROW, ROW[5:9]), ROW)
        self.refused(TooGreat(400), joined, ROW, ((0, 1),))
        self.refused(TooGreat(400), joined, ROW, shifted(ROW, (0, 1)))
        self.assertEqual(len(common(ROW, ROW)), 400)
        self.assertEqual(without(ROW, ((0, 1),)), ROW)


class Reach(Case):

    def test_reach(self):
        self.assertEqual(reach(((0, 0), (1, 5), (3, 1)), (1, 0)), 3)
        self.assertEqual(reach(((0, 0), (1, 5), (3, 1)), (-1, -1)), 0)
        self.assertEqual(reach(island=((-4, -5),), direction=(1, 1)), -9)

    def test_reach_of_nothing(self):
        self.refused(NoRow(), reach, (), (1, 0))

    def test_facts(self):
        for draw in drawings(100, 4):
            one, other = [drawn_island(draw) or ((0, 0),) for _ in range(2)]
            u, move = (draw.randint(-5, 5), draw.randint(1, 5)), (draw.randint(-9, 9), draw.randint(-9, 9))
            most = reach(one, u)
            self.assertEqual(most, max(u[0] * x + u[1] * y for x, y in one))
            self.assertEqual(reach(shifted(one, move), u), most + u[0] * move[0] + u[1] * move[1])
            self.assertEqual(reach(joined(one, other), u), max(most, reach(other, u)))


if __name__ == "__main__":
    unittest.main()
