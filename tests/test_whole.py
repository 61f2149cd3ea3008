"""The whole document once more: its examples, its facts across the parts, all parameters by their names."""

import importlib
import inspect
import unittest
from fractions import Fraction

from allislands.bars import bars, is_bar, rule_from_bars, turned_about
from allislands.cores import common_core, core, core_area, core_sides, fan_core, in_core, is_empty, term_core
from allislands.dooms import all_within, doom_of, gone_by, held_by, is_doom, last_step
from allislands.errors import NoRow, TooGreat
from allislands.fans import (fan_least, fan_most, fan_moved, fan_of, fan_of_term, fan_sum, fan_times, fan_turned,
                             need_whole,
                             never_faster)
from allislands.forall import after, covers_all, empty_from, is_kept, kept_after, reach_after, sides
from allislands.house import House
from allislands.islands import box, joined, reach, shifted, within
from allislands.levels import (cleans, flat_by, holes_below, is_flat, level_stepped, level_steps, marked_from,
                               picture_turned)
from allislands.living import (frame_corners, holds_moved, is_ring, living_at, living_island, living_size, ring_of)
from allislands.made import core_fan, core_rule, fan_rule, is_core_rule
from allislands.maps import TURNS, mapped_direction, mapped_island, mapped_rule, turned_to, turns_of
from allislands.orders import (common_doom, gone_in_any, living_word, word_core, word_fan, word_rule, word_speed,
                               word_stepped, words_alike)
from allislands.page import Page
from allislands.places import in_order
from allislands.rows import dies_out, row_rule, row_speeds, row_stepped, same_speeds, span
from allislands.rules import (behind, both_marked, either_marked, is_lesser, moved_by, need_rule, parting_island, power,
                              stepped, stepped_times)
from allislands.running import row_last, run
from allislands.speeds import speed, term_speed
from allislands.stairs import corner_after, is_corner_kept, stair_stepped, stair_steps
from allislands.staying import filled, hold_of, is_filled, is_hold, is_staying, spreads_to, standing
from allislands.tellings import TELLINGS, is_telling, retold, telling_of, telling_rule
from allislands.terms import closed, eaten, grown, middle, opened
from allislands.termwork import plain_term, term_rule, term_stepped, terms_alike
from allislands.texts import island_text, read_island, read_rule, read_term, rule_text, term_text
from tests.test_interface import FILES, calls
from tests.tools import (AXES, FOUR, LEFT, OFTEN, SQUARE, STAY, TWO, TWO_OF_FOUR, Case, all_ways, drawings,
                         drawn_island,
                         drawn_places, drawn_rule, drawn_term, fraction_point, hull, outcome, plain_corners, plain_fan)

ONE, PAIR = ((0, 0),), ((0, 0), (1, 0))
DOOM = ((1, 1), (-1, 0), (0, -1))
RANK = ("rank", 2, ((0, 0), (0, 1), (1, 0)))
MIDDLE = ((-1, 0), (-1, 1), (0, 1))
UP = (((0, -1),),)
SMALL = 60


def fits(value):
    """Whether an outcome is a value, not an error."""
    return not (isinstance(value, tuple) and value and isinstance(value[0], type))


class Examples(Case):

    def test_rules_and_terms(self):
        for found, wanted in (
                (bars(TWO), TWO), (speed(TWO, (1, 1)), -1), (speed(TWO, (-1, 0)), 0), (speed(TWO, (0, -1)), 0),
                (stepped(TWO, ONE), ()), (stepped(TWO, PAIR), ONE), (bars(LEFT), (PAIR,)),
                (core(LEFT), ((-1, 0, 1), (0, 0, 1))),
                (in_order(((0, -2), (3, 0), (-1, 1), (1, 0), (1, 1))), ((1, 0), (1, 1), (-1, 1), (0, -1))),
                (turned_about(TWO), TWO), (behind(LEFT, LEFT), (((0, 0),), ((1, 0),), ((2, 0),))),
                (turned_about(behind(LEFT, LEFT)), (((0, 0), (1, 0), (2, 0)),)), (term_rule(RANK), TWO),
                (terms_alike(("turned", RANK), RANK), True),
                (term_rule(opened(PAIR)), (((-1, 0), (0, 0)), ((0, 0), (1, 0)))),
                (term_stepped(("again", ("at", (0, 1)), 3), ONE), ((0, -3),))):
            self.assertEqual(found, wanted)

    def test_fans_and_cores(self):
        fan = (((1, 0), 1), ((2, 1), 1), ((1, 1), 1), ((0, 1), 0), ((-1, 0), 0), ((0, -1), 0), ((1, -1), 1),
               ((2, -1), 1))
        for found, wanted in (
                (fan_of(TWO), (((1, 0), 0), ((1, 1), -1), ((0, 1), 0), ((-1, 0), 0), ((-1, -1), 1), ((0, -1), 0))),
                (fan_of(LEFT), (((1, 0), 0), ((0, 1), 0), ((-1, 0), 1), ((0, -1), 0))),
                (core_fan(((0, 0, 1), (1, 0, 2))), fan), (fan_core(fan), ((0, 0, 1), (1, 0, 2))), (core(TWO), ()),
                (core(FOUR), ((-1, 0, 1), (0, -1, 1), (1, 0, 1), (0, 1, 1))), (core_area(FOUR), (2, 1)),
                (core(TWO_OF_FOUR), ((-1, -1, 2),)), ([len(bar) for bar in bars(TWO_OF_FOUR)], [3] * 4),
                (is_doom(TWO, DOOM), True), (held_by(TWO, PAIR, DOOM, 0), (1, 0, 0)),
                (held_by(TWO, PAIR, DOOM, 1), (0, 0, 0)),
                (gone_by(TWO, PAIR, DOOM), 2), ([last_step(TWO, *size) for size in ((1, 1), (2, 1), (2, 2))],
                                                [1, 2, 3]),
                (len(stepped(TWO, box(2, 2))), 3), (len(stepped_times(TWO, box(2, 2), 2)), 1),
                (is_ring(LEFT, (-1, 0, 2), AXES), True), (living_size(LEFT, (-1, 0, 2), AXES), 1),
                (frame_corners(AXES, 1), ((0, 0), (0, 1), (-1, 1), (-1, 0))),
                (living_island(AXES, 1), ((-1, 0), (-1, 1), (0, 0), (0, 1))),
                (outcome(ring_of, LEFT, (1, 0, 1)), (NoRow, {}))):
            self.assertEqual(found, wanted)

    def test_all_steps_stairs_and_what_stays(self):
        for found, wanted in (
                ([m for u, m in sides(TWO, PAIR)], [1, 1, 0, 0, 0, 0]), (after(TWO, PAIR, 0), ((0, 0, 1), (1, 0, 1))),
                (after(TWO, PAIR, 1), ((0, 0, 1),)), (after(TWO, PAIR, 2), ()), (empty_from(TWO, PAIR), 2),
                (after(LEFT, ONE, 10 ** 20), ((-10 ** 20, 0, 1), (0, 0, 1))),
                (stair_stepped(TWO, (1, 0), (0, 1), ONE), ((-1, 0), (0, -1))),
                (is_corner_kept(TWO, (1, 0), (0, 1)), False),
                (stair_steps(TWO, (1, 0), (0, 1), ONE, 2), ((-2, 0), (-1, -1), (0, -2))),
                (standing(SQUARE), tuple((u, u) for u in AXES)), (is_hold(SQUARE, AXES), True),
                (filled(SQUARE, ((0, 0), (1, 1))), box(2, 2)), (standing(LEFT), (((0, -1), (0, 1)),)),
                (spreads_to(LEFT), (-1, 0, 1))):
            self.assertEqual(found, wanted)

    def test_rows_orders_and_levels(self):
        picture = (0, (((0, 0), 5), ((0, 1), 3), ((4, 4), -2)))
        for found, wanted in (
                ((span(MIDDLE), row_speeds(MIDDLE)), (2, (0, 0))),
                (row_stepped(MIDDLE, ((0, 0), (2, 2), (5, 9))), ((1, 1), (5, 9))),
                (row_stepped(MIDDLE, ((1, 1), (5, 9))), ((5, 9),)),
                (row_rule(LEFT, (1, 0)), ((0,), (1,))), (row_speeds(row_rule(LEFT, (1, 0))), (1, 0)),
                (run(row_rule(LEFT, (1, 0)), ((0, 0), (10, 10)), OFTEN), ((-OFTEN, 10),)),
                (row_speeds(((0, 1),)), (0, -1)),
                (row_last(((0, 1),), 7), 7), (common_doom((TWO,), 1), ((-1, 0), (0, -1), (1, 1))),
                (living_word((TWO, UP), 2), (1,)), (word_core((TWO, UP), (0, 1)), ()),
                (gone_in_any((TWO,), PAIR, ((-1, 0), (0, -1), (1, 1))), 2), (cleans(TWO), True),
                (level_stepped(TWO, picture), (0, (((0, 0), 3),)))):
            self.assertEqual(found, wanted)

    def test_maps_tellings_and_texts(self):
        for found, wanted in (
                (turns_of(TWO), (((0, 1), (1, 0)), ((1, 0), (0, 1)))),
                (mapped_rule(LEFT, ((0, -1), (1, 0))), (((0, 0),), ((0, 1),))),
                (telling_of(TWO, "table"), (((0, 0), (0, 1), (1, 0)), (0, 0, 0, 1, 0, 1, 1, 1))),
                (telling_of(LEFT, "table"), (PAIR, (0, 1, 1, 1))),
                (rule_text(TWO), "( 0 0 ) ( 0 1 ) ; ( 0 0 ) ( 1 0 ) ; ( 0 1 ) ( 1 0 )")):
            self.assertEqual(found, wanted)


class OneRule(Case):
    """One drawn rule, asked in all parts."""

    def each(self, seed, needs=3, places=3, size=1):
        for draw in drawings(SMALL, seed):
            yield draw, drawn_rule(draw, needs, places, size)

    def test_its_terms_texts_and_tellings(self):
        for draw, rule in self.each(600):
            term, island = plain_term(rule), drawn_island(draw, 8, 2)
            self.assertEqual(read_rule(rule_text(rule)), rule)
            self.assertEqual(read_island(island_text(island)), island)
            self.assertEqual(need_rule(rule_from_bars(bars(rule))), rule)
            self.assertTrue(all(is_bar(rule, bar) for bar in bars(rule)))
            for word in TELLINGS:
                self.assertEqual(outcome(retold, "bars", retold("needs", rule, "bars"), word),
                                 outcome(telling_of, rule, word))
            if is_telling("term", term):
                self.assertEqual(telling_rule("term", term), rule)
                self.assertEqual(read_term(term_text(term)), term)
                self.assertEqual(term_stepped(term, island), stepped(rule, island))
                self.assertEqual(term_stepped(("turned", term), island) if is_telling("term", ("turned", term)) else
                                 stepped(turned_about(rule), island), stepped(turned_about(rule), island))
                self.assertEqual((fan_of_term(term), term_core(term)), (fan_of(rule), core(rule)))

    def test_its_speeds_everywhere(self):
        for draw, rule in self.each(601):
            fan, about = fan_of(rule), turned_about(rule)
            self.assertEqual(need_whole(fan), fan)
            self.assertEqual(fan_of(about), fan_turned(fan))
            self.assertEqual(fan_of(fan_rule(fan)), fan)
            self.assertEqual(fan_rule(fan_of(fan_rule(fan))), fan_rule(fan))
            self.assertIs(covers_all(rule), min(s for u, s in fan) > 0)
            for u in all_ways(2):
                back = (-u[0], -u[1])
                left, right = row_speeds(row_rule(rule, u))
                self.assertEqual((right, left), (speed(rule, u), speed(rule, back)))
                self.assertEqual(speed(about, u), -speed(rule, back))
                self.assertEqual(word_speed((rule,), (0, 0, 0), u, 5), 15 * speed(rule, u))
                self.assertIs(dies_out(row_rule(rule, u)), speed(rule, u) + speed(rule, back) < 0)
                self.assertEqual(reach_after(rule, ONE, u, OFTEN), OFTEN * speed(rule, u))
                self.assertEqual(run(row_rule(rule, u), ((None, 7),), OFTEN), ((None, 7 + OFTEN * speed(rule, u)),))
            for u, v in (((1, 0), (0, 1)), ((1, 1), (0, -1)), ((-1, 2), (0, 1))):
                stair = stair_stepped(rule, u, v, ONE)
                self.assertEqual((stair[-1][0], stair[0][1]), (speed(rule, u), speed(rule, v)))
                if is_corner_kept(rule, u, v):
                    self.assertEqual(corner_after(rule, u, v, 9), ((9 * speed(rule, u), 9 * speed(rule, v)),))

    def test_its_core_or_its_doom(self):
        kinds = set()
        for draw, rule in self.each(602, 5, 2):
            corners, island = core(rule), drawn_island(draw, 6, 2) or ONE
            self.assertEqual(corners, plain_corners(plain_fan(rule)))
            self.assertEqual(is_empty(rule), corners == ())
            kinds.add(min(len(corners), 3))
            if corners:
                self.refused(NoRow(), doom_of, rule)
                self.refused(NoRow(), last_step, rule, 1, 1)
                self.refused(NoRow(), empty_from, rule, island)
                self.assertTrue(core_sides(rule))
                for point in corners:
                    self.lives(rule, point)
                if len(corners) <= 12:
                    self.assertIs(is_core_rule(corners, rule), True)
                    self.assertEqual(core(core_rule(corners)), corners)
                continue
            doom = doom_of(rule)
            last = gone_by(rule, island, doom)
            self.assertLessEqual(empty_from(rule, island), last)
            self.assertEqual(after(rule, island, last), ())
            if last <= 20:
                self.assertEqual(stepped_times(rule, island, last), ())
                house = House(rule)
                house.follow((("put", 0, island), ("step", last)))
                self.assertEqual(house.living(), ())
            wide = last_step(rule, 2, 2)
            self.assertIs(all_within(rule, 2, 2, wide), True)
            self.assertIs(all_within(rule, 2, 2, wide - 1), False)
            self.assertEqual(core_sides(rule), ())
            self.refused(NoRow(), living_word, (rule,), 3)
            self.assertLessEqual(wide, gone_in_any((rule,), box(2, 2), doom))
            # A way in which marks that are alike along lines die out, or three that have no common one.
            self.assertTrue(len(doom) == 3 or dies_out(row_rule(rule, doom[0])))
        self.assertEqual(kinds, {0, 1, 2, 3})

    def lives(self, rule, point):
        """Some islands live along a point of the core."""
        self.assertIs(in_core(rule, point), True)
        ring = ring_of(rule, point)
        self.assertIs(is_ring(rule, point, ring), True)
        size = living_size(rule, point, ring)
        island = outcome(living_island, ring, size)
        if not fits(island) or not island:
            return
        if point[2] == 1:
            self.assertIs(holds_moved(rule, island, point[:2]), True)
        marks = outcome(stepped, rule, island)
        if fits(marks):
            self.assertTrue(set(living_at(ring, size, point, 1)) <= set(marks))
            self.assertTrue(all(is_kept(rule, point, ring, size, 1,
                                        place) for place in living_at(ring, size, point, 1)))
            self.assertEqual([u for u, n in kept_after(rule, point, ring, size, OFTEN)], list(ring))

    def test_its_core_by_hulls_of_bars(self):
        for draw, rule in self.each(603):
            hulls = [hull([(Fraction(-x), Fraction(-y)) for x, y in bar]) for bar in bars(rule)]
            for x in range(-4, 5):
                for y in range(-4, 5):
                    point = (Fraction(x, 2), Fraction(y, 2))
                    within_all = all(is_in_hull(corners, point) for corners in hulls)
                    parts = 1 if x % 2 == y % 2 == 0 else 2
                    self.assertIs(in_core(rule, (x * parts // 2, y * parts // 2, parts)), within_all)

    def test_its_levels(self):
        for draw, rule in self.each(604):
            about, island, holes = turned_about(rule), drawn_island(draw, 6, 2), drawn_island(draw, 6, 2)
            picture = (0, tuple(sorted([(p, 1) for p in island] + [(p, -1) for p in holes if p not in island])))
            made = level_stepped(rule, picture)
            self.assertEqual(marked_from(made, 1), stepped(rule, island))
            self.assertEqual(holes_below(made, 0), stepped(about, holes_below(picture, 0)))
            self.assertEqual(level_stepped(about, picture_turned(picture)), picture_turned(made))
            self.assertIs(cleans(rule), is_empty(rule) and is_empty(about))
            if cleans(rule):
                steps = flat_by(rule, picture, doom_of(rule), doom_of(about))
                if steps <= 60:
                    self.assertIs(is_flat(level_steps(rule, picture, steps)), True)

    def test_it_turned_and_moved(self):
        for draw, rule in self.each(605):
            turn, place = draw.choice(TURNS), (draw.randint(-3, 3), draw.randint(-3, 3))
            made = moved_by(mapped_rule(rule, turn), place)
            self.assertLessEqual(turned_to(rule, made), (turn, place))
            self.assertIs(is_empty(made), is_empty(rule))
            self.assertEqual(core_area(made), core_area(rule))
            self.assertEqual(fan_of(made), fan_moved(fan_of(mapped_rule(rule, turn)), place))
            island = drawn_island(draw, 8, 2)
            self.assertEqual(stepped(made, mapped_island(island, turn)),
                             shifted(mapped_island(stepped(rule, island), turn), place))
            for u, s in fan_of(rule):
                v = mapped_direction(u, turn)
                self.assertEqual(speed(made, v), s + v[0] * place[0] + v[1] * place[1])

    def test_it_stays(self):
        kinds = set()
        for draw, rule in self.each(606):
            rule = either_marked(rule, STAY)
            self.assertIs(is_staying(rule), True)
            hold, far = outcome(hold_of, rule), outcome(spreads_to, rule)
            self.assertNotEqual(fits(hold), fits(far))
            kinds.add(fits(hold))
            island = drawn_island(draw, 5, 1)
            found = outcome(filled, rule, island)
            if fits(found):
                self.assertIs(is_filled(rule, found), True)
                self.assertIs(within(island, found), True)
            elif fits(hold):
                self.assertEqual(found, (TooGreat, {"most": 400}))
        self.assertEqual(kinds, {True, False})

    def test_it_on_a_page(self):
        for draw, rule in self.each(607):
            island, term = drawn_island(draw, 5, 1), plain_term(rule)
            lines = [f"rule R is {rule_text(rule)}", f"rule Q is {rule_text(turned_about(rule))}",
                     f"island A is {island_text(island)}",
                     f"island B is {island_text(stepped(rule, island))}", "say R leads A to B in 1", "say R like R",
                     "deny R faster R",
                     f"say R speeds ( 1 0 ) {speed(rule, (1, 0))}", "say R lesser R",
                     f"{'say' if is_empty(rule) else 'deny'} R dies",
                     f"{'say' if covers_all(rule) else 'deny'} R covers"]
            if is_telling("term", ("turned", term)):
                lines += [f"term T is turned {term_text(term)}", "say T makes Q"]
            page = Page("\n".join(lines))
            self.assertIs(page.all_true(), True)
            self.assertTrue(Page(str(page)) == page)
            self.assertEqual(page.named("R"), ("rule", rule))


def is_in_hull(corners, point):
    """Whether a point lies in the hull with some corners, told as those of a core."""
    if len(corners) < 3:
        first, last = corners[0], corners[-1]
        way, there = [(p[0] - first[0], p[1] - first[1]) for p in (last, point)]
        return way[0] * there[1] == way[1] * there[0] and min(first, last) <= point <= max(first, last)
    for one, other in zip(corners, corners[1:] + corners[:1]):
        way, there = (other[0] - one[0], other[1] - one[1]), (point[0] - one[0], point[1] - one[1])
        if way[0] * there[1] - way[1] * there[0] < 0:
            return False
    return True


class TwoRules(Case):
    """Two drawn rules, put together in all parts."""

    def test_put_together(self):
        for draw in drawings(SMALL, 610):
            one, other = drawn_rule(draw, 2, 2, 1), drawn_rule(draw, 2, 2, 1)
            most, least, both = either_marked(one, other), both_marked(one, other), behind(one, other)
            island, picture = drawn_island(draw, 8, 2), (0,
                                                         tuple((p, draw.choice((-1, 1, 2))) for p in drawn_places(draw,
                                                                                                                  0, 8,
                                                                                                                  2)))
            self.assertEqual(fan_of(most), fan_most(fan_of(one), fan_of(other)))
            self.assertEqual(fan_of(least), fan_least(fan_of(one), fan_of(other)))
            self.assertEqual(fan_of(both), fan_sum(fan_of(one), fan_of(other)))
            self.assertEqual(both, word_rule((one, other), (0, 1)))
            self.assertEqual(word_fan((one, other), (1, 0)), fan_of(both))
            self.assertEqual(core(least), common_core(one, other))
            self.assertEqual(stepped(both, island), word_stepped((one, other), (0, 1), island))
            self.assertEqual(stepped(most, island), joined(stepped(one, island), stepped(other, island)))
            self.assertEqual(level_stepped(both, picture), level_stepped(other, level_stepped(one, picture)))
            self.assertEqual(turned_about(most), both_marked(turned_about(one), turned_about(other)))
            self.assertEqual(outcome(behind, turned_about(one), turned_about(other)), outcome(turned_about, both))
            self.assertIs(never_faster(least, one), True)
            self.assertIs(is_lesser(least, most), True)
            self.assertIs(words_alike((one, other), (0, 1), (1, 0)), both == behind(other, one))
            for u in ((1, 0), (1, -1)):
                rows = [row_rule(rule, u) for rule in (behind(other, one), both)]
                self.assertIs(same_speeds(*rows), True)
            if one != other:
                parting = parting_island(one, other)
                self.assertNotEqual((0, 0) in stepped(one, parting), (0, 0) in stepped(other, parting))
            power_core = [(n * x, n * y) for n in (2,) for x, y in map(fraction_point, core(one))]
            self.assertEqual([fraction_point(p) for p in core(power(one, 2))], power_core)
            self.assertEqual(fan_of(power(one, 2)), fan_times(fan_of(one), 2))

    def test_dooms_of_both(self):
        found = 0
        for draw in drawings(SMALL, 611):
            rules = (drawn_rule(draw, 2, 3, 1), drawn_rule(draw, 2, 3, 1))
            doom = outcome(common_doom, rules, 2)
            if fits(doom):
                found += 1
                self.assertTrue(all(is_empty(rule) for rule in rules))
                self.assertTrue(all(is_doom(rule, doom) for rule in rules))
                self.assertEqual(word_core(rules, (0, 1)), ())
                self.assertEqual(gone_in_any(rules, PAIR, doom), max(gone_by(rule, PAIR, doom) for rule in rules))
        self.assertGreater(found, 10)


class Terms(Case):

    def test_facts_of_terms(self):
        done = 0
        for draw in drawings(200, 612):
            a, b, c = [drawn_term(draw, 2, 2, 1) for _ in range(3)]
            again = draw.randint(0, 2)
            for one, other in (
                    (("most", (a, b, c)), ("most", (("most", (c, b)), a))),
                    (("least", (a, b, c)), ("least", (b, ("least", (c, a))))),
                    (("least", (a, ("most", (b, c)))), ("most", (("least", (a, b)), ("least", (a, c))))),
                    (("most", (a, ("least", (b, c)))), ("least", (("most", (a, b)), ("most", (a, c))))),
                    (("then", a, ("most", (b, c))), ("most", (("then", a, b), ("then", a, c)))),
                    (("then", a, ("least", (b, c))), ("least", (("then", a, b), ("then", a, c)))),
                    (("turned", ("most", (a, b))), ("least", (("turned", a), ("turned", b)))),
                    (("turned", ("then", a, b)), ("then", ("turned", a), ("turned", b))),
                    (("turned", ("turned", a)), a),
                    (("then", ("again", a, again), ("again", a, 1)), ("again", a, again + 1))):
                alike = outcome(terms_alike, one, other)
                if alike is True:
                    done += 1
                    self.assertEqual(fan_of_term(one), fan_of_term(other))
                    self.assertTrue(all(term_speed(one, u) == term_speed(other, u) for u in AXES))
                self.assertTrue(alike is True or alike[0] is TooGreat, (one, other, alike))
        self.assertGreater(done, 900)

    def test_facts_of_ranks_and_of_named_ones(self):
        for draw in drawings(SMALL, 613):
            places = drawn_places(draw, 1, 3, 2)
            for k in range(1, len(places) + 1):
                self.assertIs(terms_alike(("turned", ("rank", k, places)), ("rank", len(places) + 1 - k, places)), True)
            self.assertIs(terms_alike(eaten(places), ("turned", grown(places))), True)
            self.assertIs(terms_alike(opened(places), ("turned", closed(places))), True)
            self.assertIs(is_lesser(term_rule(opened(places)), STAY), True)
            self.assertIs(is_lesser(STAY, term_rule(closed(places))), True)
            for term in (opened(places), closed(places)):
                twice = outcome(terms_alike, ("then", term, term), term)
                self.assertTrue(twice is True or twice[0] is TooGreat)
            if len(places) % 2:
                self.assertIs(terms_alike(middle(places), ("turned", middle(places))), True)
                self.assertEqual(term_core(middle(places)), core(term_rule(middle(places))))


class Reach(Case):

    def test_facts(self):
        for draw in drawings(SMALL, 614):
            one, other = drawn_island(draw) or ONE, drawn_island(draw) or ONE
            u, place = draw.choice(all_ways(3)), (draw.randint(-9, 9), draw.randint(-9, 9))
            self.assertEqual(reach(shifted(one, place), u), reach(one, u) + u[0] * place[0] + u[1] * place[1])
            self.assertEqual(reach(joined(one, other), u), max(reach(one, u), reach(other, u)))


RING = AXES
# A value for each parameter of each function; what is not told by function and parameter is told by parameter.
BY_NAME = {
    "rule": TWO, "island": PAIR, "direction": (1, 1), "place": (1, 2), "number": 3, "times": 2, "steps": 3,
    "value": None,
    "one": TWO, "other": LEFT, "term": RANK, "width": 2, "height": 1, "fan": fan_of(TWO), "point": (0, 0, 1),
    "doom": DOOM,
    "ring": RING, "frame": RING, "size": 2, "u": (1, 0), "v": (0, 1), "stair": ((0, 1), (2, 0)), "rowrule": MIDDLE,
    "row": ((0, 3), (7, 9)), "wide": 7, "rules": (TWO, LEFT), "word": (0, 1), "rounds": 2, "length": 2,
    "picture": (0, ((PAIR[0], 1),)),
    "level": 0, "low": 0, "high": 1, "counter": DOOM, "change": ((0, -1), (1, 0)), "telling": "bars", "into": "table",
    "needs": TWO, "sets": TWO, "places": PAIR + ((2, 0),), "points": ((0, 0, 1), (1, 0, 2)), "directions": AXES,
    "corners": ((2, 0), (0, 1)), "hold": AXES, "text": "none",
}
APART = {
    ("islands", "one"): PAIR, ("islands", "other"): ONE, ("termwork", "one"): RANK,
    ("termwork", "other"): ("at", (0, 0)),
    ("fan_most", "one"): fan_of(TWO), ("fan_most", "other"): fan_of(LEFT), ("fan_least", "one"): fan_of(TWO),
    ("fan_least", "other"): fan_of(LEFT), ("fan_sum", "one"): fan_of(TWO), ("fan_sum", "other"): fan_of(LEFT),
    ("stairs", "one"): ((0, 0),), ("stairs", "other"): ((1, -1),), ("rows", "one"): MIDDLE, ("rows", "other"): ((0,),),
    ("levels", "one"): (0, ((PAIR[0], 1),)), ("levels", "other"): (1, ()), ("words_alike", "one"): (0, 1),
    ("words_alike", "other"): (1, 0), ("change_behind", "one"): ((0, -1), (1, 0)),
    ("change_behind", "other"): ((1, 1), (0, 1)),
    ("ring_of", "rule"): LEFT, ("is_ring", "rule"): LEFT, ("living_size", "rule"): LEFT, ("kept_after", "rule"): LEFT,
    ("is_kept", "rule"): LEFT, ("corner_after", "rule"): LEFT, ("staying", "rule"): SQUARE,
    ("row_last", "rowrule"): ((0, 1),),
    ("marked_from", "level"): 1, ("common_doom", "rules"): (TWO,), ("gone_in_any", "rules"): (TWO,),
    ("read_rule", "text"): "( 0 0 )",
    ("read_term", "text"): "at ( 0 0 )", ("need_place", "value"): (0, 0), ("need_direction", "value"): (1, 0),
    ("need_island", "value"): PAIR, ("need_point", "value"): (0, 0, 1), ("need_stair", "value"): ((0, 0),),
    ("need_picture", "value"): (0, ()), ("telling_rule", "value"): TWO, ("retold", "value"): TWO,
    ("turned_to", "other"): TWO,
    ("is_core_rule", "value"): core_rule(((0, 0, 1), (1, 0, 2))), ("core_widths", "rule"): LEFT,
    ("spreads_to", "rule"): LEFT,
    ("faster_at", "one"): LEFT, ("faster_at", "other"): TWO, ("terms_parted", "other"): ("at", (0, 0)),
}


class ByName(unittest.TestCase):

    def test_every_function_takes_its_parameters_by_their_names(self):
        many = 0
        for file, told in FILES.items():
            module = importlib.import_module(f"allislands.{file}")
            for word, rest in calls(told):
                names = rest.split(", ")
                values = [APART.get((word, name), APART.get((file, name), BY_NAME.get(name))) for name in names]
                call = getattr(module, word)
                wanted = call(*values)
                named = dict(zip(names, values))
                self.assertEqual(call(**named), wanted, word)
                self.assertEqual(call(**dict(reversed(named.items()))), wanted, word)
                self.assertEqual(list(inspect.signature(call).parameters), names)
                many += 1
        self.assertEqual(many, 170)

    def test_the_classes_too(self):
        house = House(rule=TWO)
        house.do(deed=("put", 0, PAIR))
        house.follow(deeds=(("step", 1),))
        self.assertEqual((house.island(name=0), house.trial(deeds=())), (ONE, (0, 1)))
        self.assertEqual(Page(text="island A is none").named(name="A"), ("island", ()))


if __name__ == "__main__":
    unittest.main()
