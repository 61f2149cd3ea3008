"""[3], [13] Bars."""

import itertools
import unittest

from allislands.bars import bars, is_bar, rule_from_bars, turned_about
from allislands.errors import BadBars, BadRule, TooGreat
from allislands.rules import behind, both_marked, either_marked, need_rule
from tests.tools import LEFT, MANY, ODD, STAY, TWO, Case, drawings, drawn_places, drawn_rule, least, outcome, step

TWELVE = tuple((k, 0) for k in range(12))
REFUSED = (TooGreat, {"most": 60})
# Six pairs apart from each other: 64 bars; with all pairs of their greater places besides only 7.
LOW, HIGH = [(k - 20, 0) for k in range(6)], [(k, 0) for k in range(6)]
PAIRS = tuple(zip(LOW, HIGH))
CROSSED = PAIRS + tuple(itertools.combinations(HIGH, 2))


def plain_bars(rule):
    """All least sets with a place of each need, by going through all sets of places."""
    places = sorted({place for need in rule for place in need})
    met = [found for many in range(1, len(places) + 1) for found in itertools.combinations(places, many)
           if all(set(found) & set(need) for need in rule)]
    return least(met)


class Bars(Case):

    def test_examples(self):
        self.assertEqual(bars(TWO), TWO)
        self.assertEqual(turned_about(TWO), TWO)
        self.assertEqual(bars(LEFT), (((0, 0), (1, 0)),))
        self.assertEqual(bars(rule=STAY), STAY)
        self.assertEqual(turned_about(rule=behind(LEFT, LEFT)), (((0, 0), (1, 0), (2, 0)),))
        self.assertEqual(bars((TWELVE,)), tuple((place,) for place in TWELVE))
        square = ((0, 0), (0, 1), (1, 0), (1, 1))
        self.assertEqual(bars(tuple(itertools.combinations(square, 2))), tuple(itertools.combinations(square, 3)))

    def test_small_rules_against_all_sets_of_their_places(self):
        for draw in drawings(200, 20):
            rule = drawn_rule(draw, 5, 3, 1)
            found = plain_bars(rule)
            self.assertEqual(bars(rule), found)
            self.assertEqual(turned_about(rule), found)

    def test_turned_about_twice(self):
        for draw in drawings(200, 21):
            rule = drawn_rule(draw, 5, 4, 3)
            about = outcome(turned_about, rule)
            if about != REFUSED:
                self.assertEqual(need_rule(about), about)
                self.assertEqual(turned_about(about), rule)

    def test_a_mark_is_missing_where_a_bar_is(self):
        for draw in drawings(100, 22):
            rule = drawn_rule(draw)
            found = bars(rule)
            island = set(drawn_places(draw, 0, 25, 3))
            behind_it = step(rule, island)
            for x in range(-6, 7):
                for y in range(-6, 7):
                    barred = any(all((x + a, y + b) not in island for a, b in bar) for bar in found)
                    self.assertEqual((x, y) not in behind_it, barred)

    def test_facts(self):
        done = 0
        for draw in drawings(60, 23):
            one, other = drawn_rule(draw, 3, 2, 1), drawn_rule(draw, 3, 2, 1)
            about = (turned_about(one), turned_about(other))
            for call, turned in ((either_marked, both_marked), (both_marked, either_marked), (behind, behind)):
                made, wanted = outcome(call, one, other), outcome(turned, *about)
                if REFUSED not in (made, wanted) and outcome(turned_about, made) != REFUSED:
                    self.assertEqual(turned_about(made), wanted)
                    done += 1
        self.assertGreater(done, 100)

    def test_60_bars_are_let(self):
        rows = [tuple((x, y) for x in range(many)) for y, many in enumerate((4, 5, 3))]
        picked = [tuple(sorted(places)) for places in itertools.product(*rows)]
        self.assertEqual(bars(least(rows)), tuple(sorted(picked)))
        self.assertEqual(len(bars(least(rows))), 60)
        # One bar more: a place that both needs have, besides the 10 * 6 pairs.
        shared = ((20, 20),)
        wide = least([tuple((x, 0) for x in range(10)) + shared, tuple((x, 1) for x in range(6)) + shared])
        for call in (bars, turned_about):
            self.refused(TooGreat(60), call, wide)
        self.assertEqual(len(bars(least([wide[0][1:], wide[1]]))), 55)

    def test_60_bars_of_the_first_needs(self):
        self.assertEqual(len(plain_bars(CROSSED)), 7)
        self.assertEqual(need_rule(CROSSED), CROSSED)
        self.assertEqual(len(plain_bars(PAIRS)), 64)
        self.refused(TooGreat(60), bars, CROSSED)
        self.refused(TooGreat(60), turned_about, CROSSED)
        # With the numbers turned about the needs come in another order, and there are never more than 60.
        other = least(tuple(sorted((-x, -y) for x, y in need)) for need in CROSSED)
        self.assertEqual(bars(other), plain_bars(other))

    def test_many_bars_are_refused_soon(self):
        rule = least([tuple((x, y) for x in range(12)) for y in range(41 - 20)])
        self.refused(TooGreat(60), bars, rule)

    def test_parameters(self):
        for call in (bars, turned_about):
            self.refused(BadRule(()), call, [((0, 0),)])
            self.refused(BadRule((1,)), call, (((1, 0),), ((0, 0),)))


class FromBars(Case):

    def test_in_any_order_with_sets_alike_and_within_one_another(self):
        self.assertEqual(rule_from_bars(TWO), TWO)
        self.assertEqual(rule_from_bars(sets=tuple(reversed(TWO))), TWO)
        self.assertEqual(rule_from_bars((((0, 0), (1, 0)),)), LEFT)
        self.assertEqual(rule_from_bars((((0, 0), (1, 0), (2, 0)), ((0, 0), (1, 0)), ((0, 0), (1, 0)))), LEFT)
        self.assertEqual(rule_from_bars((((0, 0),),) * 60), STAY)

    def test_drawn_ones(self):
        for draw in drawings(150, 24):
            sets = tuple(drawn_places(draw, 1, 4, 1) for _ in range(draw.randint(1, 9)))
            found = outcome(rule_from_bars, sets)
            if found != REFUSED:
                self.assertEqual(found, plain_bars(least(sets)))
                self.assertEqual(bars(found), least(sets))

    def test_60_needs_are_let_the_least_sets_being_taken_in_ascending_order(self):
        self.refused(TooGreat(60), rule_from_bars, CROSSED)
        self.refused(TooGreat(60), rule_from_bars, tuple(reversed(CROSSED)))
        # A set that has all places of another one counts for nothing, wherever it stands.
        self.assertEqual(len(rule_from_bars(PAIRS[:5] + ((LOW[0],), (HIGH[0],)))), 16)
        self.assertEqual(rule_from_bars(PAIRS + tuple((place,) for place in HIGH)), (tuple(HIGH),))

    def test_what_is_refused(self):
        for sets in (None, 5, [], [((0, 0),)], (), (((0, 0),),) * 61, (None,) * 61):
            self.refused(BadBars(()), rule_from_bars, sets)
        for bad in ODD + ((), TWELVE + ((12, 0),), ((21, 0),), ((0, -21),), ((1, 0), (0, 0)), ((0, 0), (0, 0))):
            self.refused(BadBars((0,)), rule_from_bars, (bad, bad))
            self.refused(BadBars((2,)), rule_from_bars, (((1, 0),), ((0, 0),), bad))
        self.refused(BadBars((59,)), rule_from_bars, CROSSED + CROSSED + CROSSED[:17] + (None,))


class IsBar(Case):

    def test_bars_and_what_is_none(self):
        self.assertIs(is_bar(LEFT, ((0, 0), (1, 0))), True)
        self.assertIs(is_bar(rule=LEFT, value=((0, 0),)), False)
        self.assertIs(is_bar(LEFT, ((0, 0), (1, 0), (2, 0))), False)
        self.assertIs(is_bar(LEFT, ()), False)
        self.assertIs(is_bar(LEFT, ((1, 0), (0, 0))), False)
        self.assertIs(is_bar(LEFT, ((0, 0), (0, 0), (1, 0))), False)
        self.assertIs(is_bar(TWO, ((0, 0), (0, 1), (1, 0))), False)

    def test_all_sets_of_places_of_small_rules(self):
        for draw in drawings(60, 25):
            rule = drawn_rule(draw, 4, 3, 1)
            places = sorted({place for need in rule for place in need})
            found = plain_bars(rule)
            for many in range(len(places) + 1):
                for value in itertools.combinations(places, many):
                    self.assertIs(is_bar(rule, value), value in found)

    def test_with_a_place_more_or_less(self):
        for draw in drawings(60, 26):
            rule = drawn_rule(draw, 4, 3, 2)
            for bar in bars(rule):
                self.assertIs(is_bar(rule, bar), True)
                for at in range(len(bar)):
                    self.assertIs(is_bar(rule, bar[:at] + bar[at + 1:]), False)
                for place in ((-2, -2), (0, 0), (1, 2), (19, 19), (10 ** 9, 0)):
                    if place not in bar:
                        self.assertIs(is_bar(rule, tuple(sorted(bar + (place,)))), False)

    def test_values_of_any_kind(self):
        for value in ODD + ([(0, 0), (1, 0)], ((0, 0), [1, 0]), ((0, 0), (1, 0, 0)), ((0, 0), None), ((0, 0), (True, 0)),
                            TWELVE * 40, tuple((k, 0) for k in range(500))):
            self.assertIs(is_bar(LEFT, value), False)

    def test_it_has_no_bound(self):
        self.assertIs(is_bar(CROSSED, tuple(HIGH)), True)
        self.assertIs(is_bar(PAIRS, tuple(LOW)), True)
        self.assertIs(is_bar(MANY, tuple(place for need in MANY for place in need)), True)

    def test_the_rule_is_checked(self):
        self.refused(BadRule(()), is_bar, None, None)


if __name__ == "__main__":
    unittest.main()
