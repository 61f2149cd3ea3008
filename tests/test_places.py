"""[2], [5], [8] Places, directions, half planes."""

import math
import unittest

from allislands.errors import BadDirection, BadParameter, BadPlace
from allislands.places import (dot, in_half, in_order, least_direction, need_direction, need_place,
                               turned_left)
from tests.tools import ODD, Case, drawings

BIG = 10 ** 9
FAR = 10 ** 6
MOST = 10 ** 60
BAD_PAIRS = ODD + ((), (1,), (1, 2, 3), [1, 2], (1.0, 2), (1, "2"), (1, None), (True, 1), (1, False))


class Places(Case):

    def test_places(self):
        for place in ((0, 0), (BIG, -BIG), (-BIG, BIG), (3, -4)):
            self.assertEqual(need_place(place), place)
            self.assertEqual(need_place(value=place), place)

    def test_what_is_no_place(self):
        for value in BAD_PAIRS + ((BIG + 1, 0), (-BIG - 1, 0), (0, BIG + 1), (0, -BIG - 1)):
            self.refused(BadPlace(value), need_place, value)

    def test_directions(self):
        for direction in ((1, 0), (0, -1), (FAR, -FAR), (-FAR, FAR), (2, 4)):
            self.assertEqual(need_direction(direction), direction)
            self.assertEqual(need_direction(value=direction), direction)

    def test_what_is_no_direction(self):
        for value in BAD_PAIRS + ((0, 0), (FAR + 1, 0), (-FAR - 1, 0), (0, FAR + 1), (0, -FAR - 1)):
            self.refused(BadDirection(value), need_direction, value)


class Half(Case):

    def test_dot(self):
        self.assertEqual(dot((2, -3), (5, 7)), -11)
        self.assertEqual(dot(direction=(FAR, FAR), place=(BIG, BIG)), 2 * FAR * BIG)

    def test_dot_refuses_in_the_order_of_its_parameters(self):
        self.refused(BadDirection((0, 0)), dot, (0, 0), None)
        self.refused(BadPlace((0, BIG + 1)), dot, (1, 0), (0, BIG + 1))

    def test_in_half(self):
        self.assertIs(in_half((1, 2), 7, (3, 2)), True)
        self.assertIs(in_half((1, 2), 6, (3, 2)), False)
        self.assertIs(in_half(direction=(-1, 0), number=-3, place=(3, 9)), True)
        self.assertIs(in_half((1, 0), MOST, (BIG, 0)), True)
        self.assertIs(in_half((1, 0), -MOST, (-BIG, 0)), False)

    def test_in_half_refuses_in_the_order_of_its_parameters(self):
        self.refused(BadDirection([1, 0]), in_half, [1, 0], None, None)
        for number in (MOST + 1, -MOST - 1, True, 1.0, "1", None):
            self.refused(BadParameter(number), in_half, (1, 0), number, None)
        self.refused(BadPlace(None), in_half, (1, 0), MOST, None)

    def test_least_direction(self):
        for told, plain in (((4, 6), (2, 3)), ((-4, 6), (-2, 3)), ((0, -9), (0, -1)), ((5, 0), (1, 0)),
                            ((-7, -7), (-1, -1)), ((FAR, -FAR), (1, -1)), ((3, 5), (3, 5))):
            self.assertEqual(least_direction(told), plain)
        self.assertEqual(least_direction(direction=(-6, 0)), (-1, 0))
        self.refused(BadDirection((0, 0)), least_direction, (0, 0))

    def test_turned_left(self):
        self.assertEqual(turned_left((1, 0)), (0, 1))
        self.assertEqual(turned_left((0, 1)), (-1, 0))
        self.assertEqual(turned_left(direction=(2, -6)), (6, 2))
        self.refused(BadDirection((FAR + 1, 0)), turned_left, (FAR + 1, 0))


class InOrder(Case):

    def test_the_example(self):
        told = ((0, -2), (3, 0), (-1, 1), (1, 0), (1, 1))
        self.assertEqual(in_order(told), ((1, 0), (1, 1), (-1, 1), (0, -1)))
        self.assertEqual(in_order(directions=told), in_order(told))

    def test_all_quarters_and_axes(self):
        round_ = ((1, 0), (2, 1), (1, 1), (1, 2), (0, 1), (-1, 2), (-1, 1), (-2, 1), (-1, 0), (-2, -1),
                  (-1, -1), (-1, -2), (0, -1), (1, -2), (1, -1), (2, -1))
        for draw in drawings(30, 1):
            told = list(round_)
            draw.shuffle(told)
            self.assertEqual(in_order(tuple(told)), round_)

    def test_drawn_ones_against_angles(self):
        for draw in drawings(100, 2):
            told = [(draw.randint(-9, 9), draw.randint(-9, 9)) for _ in range(draw.randint(0, 60))]
            told = tuple(u for u in told if u != (0, 0))
            plain = {(a // math.gcd(a, b), b // math.gcd(a, b)) for a, b in told}
            wanted = sorted(plain, key=lambda u: math.atan2(u[1], u[0]) % (2 * math.pi))
            self.assertEqual(in_order(told), tuple(wanted))

    def test_those_that_are_close_to_each_other(self):
        told = ((FAR, FAR - 1), (FAR - 1, FAR - 2), (-FAR, 1 - FAR), (1 - FAR, 2 - FAR))
        self.assertEqual(in_order(told), ((FAR - 1, FAR - 2), (FAR, FAR - 1), (1 - FAR, 2 - FAR),
                                          (-FAR, 1 - FAR)))

    def test_each_once(self):
        self.assertEqual(in_order(((2, 2), (1, 1), (1, 1), (-3, -3))), ((1, 1), (-1, -1)))
        self.assertEqual(in_order(()), ())

    def test_sixty_and_one_more(self):
        self.assertEqual(in_order(tuple((k, 1) for k in range(60, 0, -1))),
                         tuple((k, 1) for k in range(60, 0, -1)))
        self.assertEqual(in_order(((1, 0),) * 60), ((1, 0),))
        for told in (((1, 0),) * 61, (None,) * 61):
            self.refused(BadParameter(told), in_order, told)

    def test_what_is_no_tuple_of_directions(self):
        for told in ([], [(1, 0)], None, 5, "x", {}):
            self.refused(BadParameter(told), in_order, told)
        self.refused(BadDirection((0, 0)), in_order, ((1, 0), (0, 0), None))
        self.refused(BadDirection([1, 0]), in_order, ((1, 0), [1, 0], (0, 0)))
        self.refused(BadDirection((FAR + 1, 0)), in_order, ((FAR + 1, 0),))


if __name__ == "__main__":
    unittest.main()
