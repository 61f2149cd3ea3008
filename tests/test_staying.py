"""[37], [38], [39] Marks that stay."""

import itertools
import unittest

from allislands.cores import core, in_core
from allislands.errors import BadIsland, BadParameter, BadRule, NoRow, TooGreat
from allislands.islands import shifted
from allislands.rules import rule_of, stepped
from allislands.staying import filled, held, hold_of, is_filled, is_hold, is_staying, spreads_to, standing
from tests.tools import AXES, FAN_34, FAN_61, FAR, FOUR, LEFT, ODD, SQUARE, STAY, TWO, TWO_OF_FOUR, Case, all_ways
from tests.tools import drawings, drawn_island, drawn_places, fraction_point, in_turn, outcome, plain_fan, plain_speed, step

HERE = ((0, 0),)
ALL = (((1, 0), (0, 1)), ((0, 1), (-1, 0)), ((-1, 0), (0, -1)), ((0, -1), (1, 0)))
PAIR = ((0, 0), (1, 0))
# Marks stay, and the fan has 62 directions.
GREAT = (
    ((-19, -3), (3, 15)), ((-19, 7), (-12, 8), (1, 13)), ((-18, -11), (13, 3)), ((-16, 10), (3, -6)),
    ((-16, 12), (-5, -3), (-1, -9)), ((-13, -20), (-2, -4), (11, 7)), ((-13, 8), (4, 9)), ((-11, -19), (12, 18)),
    ((-11, 14), (-2, -13)), ((-10, -3), (17, -20)), ((-10, 0), (-4, -3), (4, -20)), ((-9, 0), (4, -12)),
    ((-8, -20), (9, 20)), ((-8, -5), (-5, 19)), ((-8, -3), (10, -17)), ((-8, 3), (-4, 12)), ((-7, 14), (11, 7)),
    ((-6, 8), (-3, -15)), ((-5, -8), (11, 10)), ((-4, -2), (8, -12)), ((-4, 11), (13, -8)), HERE, ((1, 11), (18, -17)),
    ((3, 12), (14, -15)), ((5, 18), (15, -19)), ((7, 18), (11, -16)))


def drawn_staying(draw, needs=3, places=3, size=2):
    """A rule in which marks stay."""
    found = [drawn_places(draw, 1, places, size) for _ in range(draw.randint(0, needs))]
    return rule_of(tuple(found) + (HERE,))


def spans(directions):
    """Whether for each place but (0, 0) some direction has a <U, w> above 0: asked of the worst places."""
    worst = {w for a, b in directions for w in ((a, b), (-a, -b), (-b, a), (b, -a))}
    return bool(directions) and all(any(u[0] * x + u[1] * y > 0 for u in directions) for x, y in worst)


def is_plain_hold(rule, value):
    return len(value) in (3, 4) and spans(value) and all(plain_speed(rule, u) == 0 for u in value)


def in_arc(arc, u):
    """Whether one meets a direction on the way from the first one to the second, to the left."""
    ways = in_turn({u, *arc})
    turned = ways[ways.index(arc[0]):] + ways[:ways.index(arc[0])]
    return turned.index(u) <= turned.index(arc[1])


class Staying(Case):

    def test_rules_with_and_without(self):
        for rule in (STAY, LEFT, SQUARE):
            self.assertIs(is_staying(rule), True)
        for rule in (TWO, FOUR, TWO_OF_FOUR, (((1, 0),),), (((0, 0), (1, 0)),)):
            self.assertIs(is_staying(rule=rule), False)
        for rule in (None, [HERE], ()):
            self.refused(BadRule(()), is_staying, rule)

    def test_all_others_ask_it_behind_their_parameters(self):
        for rule in (TWO, FOUR, FAN_61, FAN_34):
            for call, rest in ((standing, ()), (hold_of, ()), (spreads_to, ()), (filled, (PAIR,)), (is_filled, (PAIR,)),
                               (filled, ((),)), (is_filled, ((),)), (held, (PAIR, AXES)), (held, ((), AXES))):
                self.refused(NoRow(), call, rule, *rest)
            for value in (AXES, None, ()) + ODD:
                self.refused(NoRow(), is_hold, rule, value)
            for call, rest in ((filled, ()), (is_filled, ()), (held, (None,))):
                self.refused(BadIsland(PAIR[::-1]), call, rule, PAIR[::-1], *rest)
        for call, rest in ((standing, ()), (hold_of, ()), (spreads_to, ()), (is_hold, (None,)), (filled, (None,)),
                           (is_filled, (None,)), (held, (None, None))):
            self.refused(BadRule(()), call, None, *rest)
            self.refused(BadRule((0,)), call, (None,), *rest)

    def test_too_great(self):
        rule = GREAT
        self.assertEqual(len(plain_fan(rule)), 62)
        for call in (standing, hold_of, spreads_to):
            self.refused(TooGreat(60), call, rule)
        # The others ask no fan.
        self.assertIs(is_hold(rule, AXES), False)
        self.refused(BadParameter(AXES), held, rule, PAIR, AXES)
        self.assertIs(is_staying(rule), True)


class Standing(Case):

    def test_examples(self):
        self.assertEqual(standing(SQUARE), tuple((u, u) for u in AXES))
        self.assertEqual(standing(rule=LEFT), (((0, -1), (0, 1)),))
        self.assertEqual(standing(STAY), ALL)
        # Marks behind and ahead at once make nothing faster.
        self.assertEqual(standing((((-1, 0), (1, 0)), HERE)), ALL)
        self.assertEqual(standing((((-1, 0),), HERE, ((1, 0),))), (((0, 1), (0, 1)), ((0, -1), (0, -1))))
        self.assertEqual(standing((((-1, -1),), HERE)), (((-1, 1), (1, -1)),))
        self.assertEqual(standing((((-1, 1),), HERE)), (((1, 1), (-1, -1)),))
        self.assertEqual(standing((HERE, ((0, 1),), ((1, 0),))), (((1, 0), (0, 1)),))
        self.assertEqual(standing((((0, -1),), HERE, ((1, 0),))), (((0, -1), (1, 0)),))
        self.assertEqual(standing((((-1, 0), (0, -1)), HERE)), (((0, 1), (1, 0)),))
        self.assertEqual(standing((((-1, 0),), ((0, -1),), HERE, ((0, 1),), ((1, 0),))), ())

    def test_drawn_ones(self):
        kinds = set()
        for draw in drawings(250, 160):
            rule = drawn_staying(draw, 4)
            arcs = standing(rule)
            flat = [u for u in all_ways(6) if plain_speed(rule, u) == 0]
            if arcs == ALL:
                self.assertEqual(len(flat), len(all_ways(6)))
                kinds.add("all")
                continue
            self.assertLess(len(flat), len(all_ways(6)))
            kinds.add((min(len(arcs), 3), any(u == v for u, v in arcs), any(u != v for u, v in arcs)))
            for u in all_ways(6):
                self.assertEqual([in_arc(arc, u) for arc in arcs].count(True), u in flat, (arcs, u))
            # As long as they can be, and in the order of their first directions.
            ends = [u for arc in arcs for u in set(arc)]
            self.assertEqual(len(ends), len(set(ends)))
            firsts = [u for u, v in arcs]
            ways = [u for u, s in plain_fan(rule)]
            self.assertEqual(firsts, [u for u in ways if u in firsts])
        self.assertTrue({"all", (0, False, False), (1, False, True), (1, True, False), (2, True, True)} <= kinds, kinds)


class Holds(Case):

    def test_examples(self):
        self.assertIs(is_hold(SQUARE, AXES), True)
        self.assertIs(is_hold(rule=SQUARE, value=hold_of(rule=SQUARE)), True)
        self.refused(NoRow(), spreads_to, SQUARE)
        self.refused(NoRow(), hold_of, LEFT)
        self.assertEqual(spreads_to(rule=LEFT), (-1, 0, 1))
        self.assertEqual(spreads_to((HERE, ((1, 0),), ((2, 0),))), (-2, 0, 1))
        self.assertEqual(spreads_to((((-1, 0),), HERE)), (1, 0, 1))
        self.assertEqual(spreads_to((((-3, 3),), ((-3, 4),), HERE)), (3, -4, 1))
        # The least corner need not stand beside (0, 0, 1).
        self.assertEqual(spreads_to((((-3, 0),), ((-2, -2),), ((0, -3),), HERE)), (0, 3, 1))

    def test_just_one_of_the_two(self):
        kinds = set()
        for draw in drawings(300, 161):
            rule = drawn_staying(draw, 4, 3)
            hold, far = outcome(hold_of, rule), outcome(spreads_to, rule)
            self.assertEqual((hold == (NoRow, {})) + (far == (NoRow, {})), 1)
            others = [p for p in core(rule) if p != (0, 0, 1)]
            if others:
                self.assertEqual(far, min(others, key=fraction_point))
                self.assertIs(in_core(rule, far), True)
                kinds.add("far")
            else:
                self.assertIsInstance(hold, tuple)
                self.assertTrue(is_plain_hold(rule, hold))
                self.assertIs(is_hold(rule, hold), True)
                kinds.add(len(hold))
        self.assertEqual(kinds, {"far", 3, 4})

    def test_drawn_values(self):
        kinds = set()
        for draw in drawings(400, 162):
            rule = draw.choice((STAY, SQUARE, drawn_staying(draw, 2, 3), (((-1, 0), (1, 0)), HERE)))
            value = tuple(draw.choice(all_ways(2)) for _ in range(draw.randint(2, 5)))
            wanted = is_plain_hold(rule, value)
            kinds.add((wanted, len(value)))
            self.assertIs(is_hold(rule, value), wanted, value)
        self.assertTrue({(True, 3), (True, 4), (False, 2), (False, 3), (False, 4), (False, 5)} <= kinds)
        self.assertNotIn((True, 5), kinds)

    def test_values_of_any_kind(self):
        wrong = [AXES[:2], AXES[:3], AXES + AXES[:1], list(AXES), AXES[:3] + ([0, -1],), AXES[:3] + ((0, 0),), (),
                 AXES[:3] + ((0, True),), AXES[:3] + ((0, -FAR - 1),), AXES[:3] + (None,), ((1, 0), (-1, 0), (0, 1)),
                 ((1, 0), (1, 1), (0, 1)), ((1, 0), (0, 1), (-1, 0), (-1, 1)), ((1, 0), (1, 0), (-1, 0), (-1, 0)),
                 ((1, 1), (0, -1), (0, -1)), ((1, 0), (-1, 1), (-1, 0))]
        for value in wrong + list(ODD):
            self.assertIs(is_hold(STAY, value), False, value)
        for value in (((1, 1), (-1, 0), (0, -1)), ((0, -1), (1, 1), (-1, 0)), ((FAR, FAR), (-FAR, 0), (0, -3)), AXES[::-1],
                      ((2, 0), (0, 3), (-1, 0), (0, -1)), ((1, 1), (1, 1), (-1, 0), (0, -1)), ((5, 1), (-5, 1), (0, -1))):
            self.assertIs(is_hold(STAY, value), True, value)
        self.assertIs(is_hold(SQUARE, ((1, 1), (-1, 0), (0, -1))), False)
        self.assertIs(is_hold(LEFT, AXES), False)

    def test_held(self):
        self.assertEqual(held(SQUARE, PAIR, AXES), (1, 0, 0, 0))
        self.assertEqual(held(rule=SQUARE, island=((3, -7), (5, 2)), hold=AXES[::-1]), (7, -3, 2, 5))
        self.assertEqual(held(STAY, PAIR, ((FAR, FAR), (-FAR, 0), (0, -3))), (FAR, 0, 0))
        for hold in (None, (), AXES[:3], list(AXES), ((1, 1), (-1, 0), (0, -1)), LEFT) + ODD:
            self.refused(BadParameter(hold), held, SQUARE, (), hold)
        self.refused(BadParameter(AXES), held, LEFT, (), AXES)
        self.refused(NoRow(), held, SQUARE, (), AXES)
        # Marks that do not stay: the speeds are not asked.
        for hold in (AXES, ((1, 1), (-1, 0), (0, -1))):
            self.refused(NoRow(), held, TWO, PAIR, hold)
        for hold in (None, (), AXES[:3], list(AXES), AXES[:3] + ((0, 0),)):
            self.refused(BadParameter(hold), held, TWO, (), hold)

    def test_all_steps_together(self):
        done = 0
        for draw in drawings(120, 163):
            rule = drawn_staying(draw, 3, 3)
            hold, island = outcome(hold_of, rule), drawn_island(draw, 6, 3)
            if hold == (NoRow, {}) or not island:
                continue
            done += 1
            numbers, marks = held(rule, island, hold), set(island)
            for _ in range(6):
                for u, m in zip(hold, numbers):
                    self.assertTrue(all(u[0] * x + u[1] * y <= m for x, y in marks))
                marks = step(rule, marks)
        self.assertGreater(done, 30)


class Filled(Case):

    def test_examples(self):
        self.assertEqual(filled(SQUARE, ((0, 0), (1, 1))), ((0, 0), (0, 1), (1, 0), (1, 1)))
        self.assertIs(is_filled(SQUARE, ((0, 0), (1, 1))), False)
        self.assertIs(is_filled(rule=SQUARE, island=((0, 0), (0, 1), (1, 0), (1, 1))), True)
        self.assertEqual(filled(rule=SQUARE, island=()), ())
        self.assertIs(is_filled(SQUARE, ()), True)
        self.assertEqual(filled(SQUARE, ((0, 0), (2, 0))), ((0, 0), (2, 0)))
        self.refused(TooGreat(400), filled, LEFT, HERE)

    def test_drawn_ones(self):
        grown = 0
        for draw in drawings(120, 164):
            needs = [drawn_places(draw, draw.randint(1, 2), 3, 1) for _ in range(draw.randint(1, 4))]
            rule, island = rule_of((HERE, *needs)), drawn_island(draw, 9, 2)
            marks, ahead = set(island), None
            while marks != ahead and len(marks) <= 400:
                ahead, marks = marks, step(rule, marks)
            found = outcome(filled, rule, island)
            if len(marks) > 400:
                self.assertEqual(found, (TooGreat, {"most": 400}))
                continue
            self.assertEqual(found, tuple(sorted(marks)))
            grown += len(found) > len(island) + 1
            self.assertIs(is_filled(rule, found), True)
            self.assertIs(is_filled(rule, island), stepped(rule, island) == island)
            self.assertEqual(filled(rule, shifted(island, (7, -9))), shifted(found, (7, -9)))
            self.assertTrue(set(filled(rule, island[::2])) <= set(found))
        self.assertGreater(grown, 10)

    def test_one_by_one(self):
        # Each place of a row of 400 comes by the one ahead of it, and ends where the guiding row ends.
        rule = rule_of((HERE, ((-1, 0), (0, 1))))
        guide = tuple((x, 1) for x in range(1, 200))
        found = filled(rule, tuple(sorted(guide + ((0, 0),))))
        self.assertEqual(found, tuple(sorted(guide + tuple((x, 0) for x in range(200)))))
        self.assertEqual(len(found), 399)
        guide = tuple((x, 1) for x in range(1, 202))
        self.refused(TooGreat(400), filled, rule, tuple(sorted(guide + ((0, 0),))))

    def test_400_places(self):
        corners = tuple((k, k) for k in range(20))
        self.assertEqual(filled(SQUARE, corners), tuple(itertools.product(range(20), repeat=2)))
        corners = tuple(sorted(corners + ((30, 30),)))
        self.refused(TooGreat(400), filled, SQUARE, corners)
        self.refused(TooGreat(400), filled, SQUARE, tuple((k, k) for k in range(400)))
        whole = tuple(itertools.product(range(20), repeat=2))
        self.assertEqual(filled(SQUARE, whole), whole)
        self.assertIs(is_filled(LEFT, whole), False)

    def test_common_of_filled_ones(self):
        for draw in drawings(40, 165):
            one, other = [filled(SQUARE, drawn_places(draw, 0, 9, 3)) for _ in range(2)]
            self.assertIs(is_filled(SQUARE, tuple(sorted(set(one) & set(other)))), True)


if __name__ == "__main__":
    unittest.main()
