"""[4], [17] Speeds."""

import unittest

from allislands.bars import turned_about
from allislands.errors import BadDirection, BadParameter, BadRule, BadTerm, TooGreat
from allislands.places import in_half
from allislands.rules import behind, both_marked, either_marked, moved_by
from allislands.speeds import half_stepped, speed, term_speed
from allislands.termwork import term_rule
from tests.tools import FAR, LEFT, MOST, TWO, Case, drawings, drawn_places, drawn_rule, drawn_term, drawn_way
from tests.tools import how_many, outcome, plain_speed

AT = ("at", (0, 0))
REFUSED = (TooGreat, {"most": 60})
TWO_TERM = ("rank", 2, ((0, 0), (0, 1), (1, 0)))


class Speed(Case):

    def test_examples(self):
        self.assertEqual([speed(TWO, u) for u in ((1, 1), (-1, 0), (0, -1))], [-1, 0, 0])
        self.assertEqual([speed(LEFT, u) for u in ((1, 0), (0, 1), (-1, 0), (0, -1))], [0, 0, 1, 0])
        self.assertEqual(speed(rule=(((-20, 20),),), direction=(FAR, -FAR)), 40 * FAR)

    def test_drawn_ones(self):
        for draw in drawings(200, 50):
            rule, u = drawn_rule(draw), drawn_way(draw)
            self.assertEqual(speed(rule, u), plain_speed(rule, u))
            self.assertEqual(speed(rule, (3 * u[0], 3 * u[1])), 3 * speed(rule, u))

    def test_facts(self):
        for draw in drawings(100, 51):
            one, other, u = drawn_rule(draw, 3, 2), drawn_rule(draw, 3, 2), drawn_way(draw)
            first, second = speed(one, u), speed(other, u)
            place = (draw.randint(-9, 9), draw.randint(-9, 9))
            self.assertEqual(plain_speed(either_marked(one, other), u), max(first, second))
            self.assertEqual(plain_speed(both_marked(one, other), u), min(first, second))
            self.assertEqual(plain_speed(behind(one, other), u), first + second)
            self.assertEqual(plain_speed(moved_by(one, place), u), first + u[0] * place[0] + u[1] * place[1])
            self.assertEqual(plain_speed(turned_about(one), u), -speed(one, (-u[0], -u[1])))

    def test_parameters(self):
        self.refused(BadRule(()), speed, None, None)
        self.refused(BadRule((1,)), speed, (((1, 0),), ((0, 0),)), (0, 0))
        for u in ((0, 0), (FAR + 1, 0), (0, -FAR - 1), None, [1, 0], (True, 1)):
            self.refused(BadDirection(u), speed, TWO, u)


class TermSpeed(Case):

    def test_each_word(self):
        u = (2, -3)
        one, other, places = ("at", (5, 7)), ("at", (-1, 4)), ((0, 0), (1, 1), (1, 4), (3, 0))
        self.assertEqual(term_speed(one, u), 11)
        self.assertEqual(term_speed(other, u), 14)
        self.assertEqual(term_speed(term=("most", (one, other)), direction=u), 14)
        self.assertEqual(term_speed(("least", (other, one)), u), 11)
        self.assertEqual(term_speed(("then", one, other), u), 25)
        self.assertEqual(term_speed(("turned", one), u), 11)
        self.assertEqual(term_speed(("turned", ("most", (one, other))), u), 11)
        self.assertEqual(term_speed(("turned", ("then", one, ("most", (one, other)))), u), 22)
        self.assertEqual(term_speed(("again", one, 0), u), 0)
        self.assertEqual(term_speed(("again", one, 10 ** 30), u), 11 * 10 ** 30)
        self.assertEqual([term_speed(("rank", k, places), u) for k in (1, 2, 3, 4)], [10, 1, 0, -6])
        self.assertEqual([term_speed(TWO_TERM, w) for w in ((1, 1), (-1, 0), (0, -1))], [-1, 0, 0])

    def test_drawn_ones_against_their_rules(self):
        done = 0
        for draw in drawings(300, 52):
            term, u = drawn_term(draw, 3, 4), drawn_way(draw)
            if how_many(term) > 17:
                continue
            rule = outcome(term_rule, term)
            if rule != REFUSED:
                done += 1
                self.assertEqual(term_speed(term, u), plain_speed(rule, u))
                often = ("turned", ("again", ("turned", term), 10 ** 30))
                self.assertEqual(term_speed(often, u), 10 ** 30 * plain_speed(rule, u))
        self.assertGreater(done, 100)

    def test_no_rule_is_made(self):
        twelve = tuple((k, 0) for k in range(12))
        self.assertEqual(term_speed(("rank", 6, twelve), (1, 0)), -5)
        self.assertEqual(term_speed(("again", ("most", (AT, ("at", (1, 0)))), 10 ** 30), (-1, 0)), 10 ** 30)

    def test_parameters(self):
        self.refused(BadTerm((0,)), term_speed, ("turned", None), None)
        self.refused(TooGreat(6), term_speed, ("turned", ("turned", ("turned", ("turned", ("turned", ("turned", AT)))))), None)
        for u in ((0, 0), (FAR + 1, 0), (0, -FAR - 1), None, [1, 0], (True, 1)):
            self.refused(BadDirection(u), term_speed, AT, u)
        self.assertEqual(term_speed(("at", (20, 20)), (-FAR, -FAR)), 40 * FAR)


class HalfStepped(Case):

    def test_examples(self):
        self.assertEqual(half_stepped(TWO, (1, 1), 5), 4)
        self.assertEqual(half_stepped(rule=LEFT, direction=(-1, 0), number=0), 1)
        self.assertEqual(half_stepped(LEFT, (-1, 0), MOST), MOST + 1)
        self.assertEqual(half_stepped(TWO, (1, 1), -MOST), -MOST - 1)

    def test_half_planes_place_by_place(self):
        for draw in drawings(60, 53):
            rule, u, number = drawn_rule(draw), drawn_way(draw, 3), draw.randint(-5, 5)
            led = half_stepped(rule, u, number)
            for x in range(-6, 7):
                for y in range(-6, 7):
                    marked = any(all(in_half(u, number, (x + a, y + b)) for a, b in need) for need in rule)
                    self.assertEqual(in_half(u, led, (x, y)), marked)

    def test_parameters(self):
        self.refused(BadRule(()), half_stepped, None, None, None)
        for u in ((0, 0), (FAR + 1, 0), (0, -FAR - 1), None):
            self.refused(BadDirection(u), half_stepped, TWO, u, None)
        for number in (MOST + 1, -MOST - 1, True, False, 1.0, "1", None, (1,)):
            self.refused(BadParameter(number), half_stepped, TWO, (1, 0), number)


class FarRules(Case):

    def test_twelve_places_and_great_directions(self):
        for draw in drawings(40, 54):
            rule = (drawn_places(draw, 12, 12, 20),)
            u = (draw.randint(-FAR, FAR), draw.randint(1, FAR))
            self.assertEqual(speed(rule, u), plain_speed(rule, u))


if __name__ == "__main__":
    unittest.main()
