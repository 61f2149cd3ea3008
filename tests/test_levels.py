"""[3], [46], [47], [48] Levels."""

import unittest

from allislands.bars import bars
from allislands.dooms import doom_of, gone_by
from allislands.errors import BadParameter, BadPicture, BadPlace, BadRule, NoRow, TooGreat
from allislands.islands import box
from allislands.levels import (cleans, flat_by, higher_of, holes_below, is_flat, level_at, level_stepped, level_steps,
                               lower_of, marked_from, need_picture, picture_cut, picture_turned)
from allislands.rules import stepped
from tests.tools import (FAN_34, FAN_61, LEFT, MOST, ODD, SQUARE, STAY, TWO, TWO_OF_FOUR, Case, drawings, drawn_places,
                         drawn_rule, outcome, plain_corners, plain_fan, step)

BIG = 10 ** 9
FLAT = (0, ())
PICTURE = (0, (((0, 0), 5), ((0, 1), 3), ((4, 4), -2)))
DOOM = ((1, 1), (-1, 0), (0, -1))
WHOLE = box(20, 20)
THIN = (((-1, 0), (1, 0)),)
# Of a box of 20 by 20 it has more than 400 places on the way, nothing in the end.
WIDE = (((-3, 0), (-3, 1), (3, 1)), ((-3, 1), (-3, 2), (1, -2)), ((0, -3), (3, -1)), ((1, -1), (3, -1)),
        ((1, 0), (2, 0)))
# The first 6 needs alone have 3 ** 6 bars.
BARRED = tuple(tuple((3 * k + j, k) for j in range(3)) for k in range(6))
NO_PICTURES = ODD + ((0,), (0, (), ()), [0, ()], (0, []), (True, ()), (MOST + 1, ()), (-MOST - 1, ()), (None, ()),
                     (0, None),
                     (0, (((0, 0), 0),)), (0, (((0, 0), 1), ((0, 0), 2))), (0, (((0, 1), 1), ((0, 0), 1))),
                     (0, (((0, 0), 1), ((0, 0), 1))), (0, (((0, 0), MOST + 1),)), (0, (((0, 0), -MOST - 1),)),
                     (0, (((BIG + 1, 0), 1),)), (0, (((0, -BIG - 1), 1),)), (0, (((0, 0), True),)),
                     (1, (((0, True), 3),)),
                     (0, ([(0, 0), 1],)), (0, (([0, 0], 1),)), (0, (((0, 0), 1, 2),)), (0, (((0, 0),),)), (0, (None,)),
                     (0, (((0, 0), 1.0),)), (0, (((0, 0), "1"),)), (0, (((0, 0, 0), 1),)), (0.0, ()), (0, ((0, 0), 5)))


def drawn_picture(draw, most=12, size=3, high=4):
    ground = draw.randint(-high, high)
    changes = [(place, draw.choice([n for n in range(-high, high + 1) if n != ground]))
               for place in drawn_places(draw, 0, most, size)]
    return (ground, tuple(changes))


def plain_level(picture, place):
    return dict(picture[1]).get(place, picture[0])


def plain_step(rule, picture):
    """The greatest of the least, place by place, of all places that could have another level."""
    near = {(x - a, y - b) for (x, y), n in picture[1] for need in rule for a, b in need}
    levels = {(x, y): max(min(plain_level(picture, (x + a, y + b)) for a, b in need) for need in rule) for x, y in near}
    return (picture[0], tuple(sorted((p, n) for p, n in levels.items() if n != picture[0])))


def told(picture):
    """A picture as results have it, its parts in order."""
    return (picture[0], tuple(sorted(picture[1])))


class Pictures(Case):

    def test_pictures(self):
        great = (MOST, (((-BIG, BIG), -MOST), ((BIG, -BIG), MOST - 1)))
        full = (0, tuple((place, 1) for place in WHOLE))
        for picture in (FLAT, PICTURE, great, full, (-MOST, (((0, 0), MOST),))):
            self.assertEqual(need_picture(picture), picture)
            self.assertEqual(need_picture(value=picture), picture)

    def test_what_is_none(self):
        more = (0, tuple((place, 1) for place in WHOLE + ((20, 0),)))
        calls = ((need_picture, ()), (level_at, (None,)), (is_flat, ()), (marked_from, (None,)), (holes_below, (None,)),
                 (picture_turned, ()), (picture_cut, (None, None)), (higher_of, (None,)), (lower_of, (None,)))
        for value in NO_PICTURES + (more,):
            for call, rest in calls:
                self.refused(BadPicture(value), call, value, *rest)
            for call in (higher_of, lower_of):
                self.refused(BadPicture(value), call, FLAT, value)
            self.refused(BadPicture(value), level_stepped, TWO, value)
            self.refused(BadPicture(value), level_steps, TWO, value, None)
            self.refused(BadPicture(value), flat_by, TWO, value, None, None)

    def test_level_at(self):
        self.assertEqual([level_at(PICTURE, place) for place in ((0, 0), (0, 1), (4, 4), (1, 0))], [5, 3, -2, 0])
        self.assertEqual(level_at(picture=(7, PICTURE[1]), place=(BIG, -BIG)), 7)
        for place in ((BIG + 1, 0), (0, True), [0, 0], None):
            self.refused(BadPlace(place), level_at, PICTURE, place)

    def test_is_flat(self):
        self.assertIs(is_flat(FLAT), True)
        self.assertIs(is_flat(picture=(MOST, ())), True)
        self.assertIs(is_flat(PICTURE), False)

    def test_islands_from_a_level(self):
        self.assertEqual([marked_from(PICTURE, n) for n in (1, 3, 4, 5, 6, MOST)],
                         [((0, 0), (0, 1)), ((0, 0), (0, 1)), ((0, 0),), ((0, 0),), (), ()])
        self.assertEqual([holes_below(PICTURE, n) for n in (0, -1, -2, -3, -MOST)], [((4, 4),), ((4, 4),), (), (), ()])
        self.assertEqual(marked_from(picture=(MOST - 1, (((0, 0), MOST),)), level=MOST), ((0, 0),))
        self.assertEqual(holes_below(picture=(MOST, (((0, 0), -MOST),)), level=MOST), ((0, 0),))
        for level in (0, -1, -MOST):
            self.refused(BadParameter(level), marked_from, PICTURE, level)
        for level in (1, 2, MOST):
            self.refused(BadParameter(level), holes_below, PICTURE, level)
        for level in (MOST + 1, -MOST - 1, True, None, 1.0, "1"):
            self.refused(BadParameter(level), marked_from, PICTURE, level)
            self.refused(BadParameter(level), holes_below, PICTURE, level)
        for draw in drawings(80, 460):
            picture = drawn_picture(draw)
            for level in range(-6, 7):
                marks = {p for p, n in picture[1] if n >= level}
                if level > picture[0]:
                    self.assertEqual(marked_from(picture, level), tuple(sorted(marks)))
                    self.refused(BadParameter(level), holes_below, picture, level)
                else:
                    self.assertEqual(holes_below(picture, level), tuple(sorted({p for p, n in picture[1]} - marks)))
                    self.refused(BadParameter(level), marked_from, picture, level)

    def test_turned(self):
        self.assertEqual(picture_turned(PICTURE), (0, (((0, 0), -5), ((0, 1), -3), ((4, 4), 2))))
        self.assertEqual(picture_turned(picture=(MOST, (((0, 0), -MOST),))), (-MOST, (((0, 0), MOST),)))
        for draw in drawings(30, 461):
            picture = drawn_picture(draw)
            self.assertEqual(picture_turned(picture_turned(picture)), picture)

    def test_cut(self):
        self.assertEqual(picture_cut(PICTURE, -1, 4), (0, (((0, 0), 4), ((0, 1), 3), ((4, 4), -1))))
        # What has the ground's level then is no change any more, also where the ground is cut.
        self.assertEqual(picture_cut(PICTURE, 0, 3), (0, (((0, 0), 3), ((0, 1), 3))))
        self.assertEqual(picture_cut(PICTURE, 3, 9), (3, (((0, 0), 5),)))
        self.assertEqual(picture_cut(PICTURE, -9, -1), (-1, (((4, 4), -2),)))
        self.assertEqual(picture_cut(picture=PICTURE, low=-MOST, high=MOST), PICTURE)
        for level in (-MOST, -2, 0, 4, MOST):
            self.assertEqual(picture_cut(PICTURE, level, level), (level, ()))
        self.refused(BadParameter(3), picture_cut, PICTURE, 4, 3)
        self.refused(BadParameter(-MOST), picture_cut, PICTURE, MOST, -MOST)
        for level in (MOST + 1, -MOST - 1, True, None, 1.0, "1"):
            self.refused(BadParameter(level), picture_cut, PICTURE, level, None)
            self.refused(BadParameter(level), picture_cut, PICTURE, 0, level)
        for draw in drawings(60, 462):
            picture = drawn_picture(draw)
            low = draw.randint(-5, 5)
            high = draw.randint(low, 5)
            made = need_picture(picture_cut(picture, low, high))
            for place in box(4, 4) + tuple(p for p, n in picture[1]):
                self.assertEqual(plain_level(made, place), min(max(plain_level(picture, place), low), high))
            self.assertEqual(made[0], min(max(picture[0], low), high))

    def test_higher_and_lower(self):
        other = (1, (((0, 0), 4), ((4, 4), -3), ((9, 9), 0)))
        self.assertEqual(higher_of(PICTURE, other), (1, (((0, 0), 5), ((0, 1), 3), ((4, 4), -2), ((9, 9), 0))))
        self.assertEqual(lower_of(one=PICTURE, other=other), (0, (((0, 0), 4), ((0, 1), 1), ((4, 4), -3))))
        for draw in drawings(80, 463):
            one, other = drawn_picture(draw), drawn_picture(draw)
            for call, chosen in ((higher_of, max), (lower_of, min)):
                made = need_picture(call(one, other))
                self.assertEqual(made[0], chosen(one[0], other[0]))
                self.assertEqual(made, call(other, one))
                for place in {p for p, n in one[1] + other[1]} | {(9, 9)}:
                    self.assertEqual(plain_level(made, place),
                                     chosen(plain_level(one, place), plain_level(other, place)))
            self.assertEqual(picture_turned(higher_of(one, other)),
                             lower_of(picture_turned(one), picture_turned(other)))

    def test_more_than_400_changes(self):
        one = (0, tuple((place, 2) for place in WHOLE))
        other = (0, (((20, 0), 1),))
        self.refused(TooGreat(400), higher_of, one, other)
        self.assertEqual(lower_of(one, other), FLAT)
        self.refused(TooGreat(400), lower_of, picture_turned(one), picture_turned(other))
        self.assertEqual(higher_of(one, (0, (((19, 19), 7),)))[1][-1], ((19, 19), 7))
        # Unlike grounds: what is as high as the greater one is no change.
        self.assertEqual(higher_of(one, (2, ())), (2, ()))
        self.assertEqual(len(higher_of((0, one[1][:-1]), other)[1]), 400)
        # Changes of the one that are holes in the ground of the other.
        self.assertEqual(len(lower_of(one, (5, ()))[1]), 400)


class Steps(Case):

    def test_examples(self):
        self.assertEqual(level_stepped(TWO, PICTURE), (0, (((0, 0), 3),)))
        self.assertEqual(level_stepped(rule=LEFT, picture=PICTURE),
                         (0, (((-1, 0), 5), ((-1, 1), 3), ((0, 0), 5), ((0, 1), 3))))
        self.assertEqual(level_stepped((((0, 0), (1, 0)),), PICTURE), (0, (((3, 4), -2), ((4, 4), -2))))
        self.assertEqual(level_steps(TWO, PICTURE, 1), (0, (((0, 0), 3),)))
        self.assertEqual(level_steps(rule=TWO, picture=PICTURE, times=2), FLAT)
        self.assertEqual(level_steps(TWO, PICTURE, 60), FLAT)
        self.assertEqual(level_steps(TWO, PICTURE, 0), PICTURE)
        for rule in (TWO, LEFT, STAY):
            for ground in (-MOST, 0, 7):
                self.assertEqual(level_stepped(rule, (ground, ())), (ground, ()))

    def test_place_by_place(self):
        kinds = set()
        for draw in drawings(200, 464):
            rule, picture = drawn_rule(draw, 4, 3, 2), drawn_picture(draw)
            made = need_picture(level_stepped(rule, picture))
            self.assertEqual(made, plain_step(rule, picture))
            kinds |= {n > made[0] for p, n in made[1]}
            for place in ((0, 0), (-2, 1), (3, 3)):
                self.assertEqual(level_at(made, place), max(min(plain_level(picture, (place[0] + a, place[1] + b))
                                                                for a, b in need) for need in rule))
        self.assertEqual(kinds, {True, False})

    def test_so_many_steps(self):
        for draw in drawings(60, 465):
            rule, picture = drawn_rule(draw, 3, 3, 1), drawn_picture(draw)
            wanted, times = picture, draw.randint(0, 6)
            for _ in range(times):
                wanted = plain_step(rule, wanted)
            self.assertEqual(level_steps(rule, picture, times), wanted)

    def test_from_each_level_on(self):
        for draw in drawings(120, 466):
            rule, picture = drawn_rule(draw, 3, 3, 2), drawn_picture(draw)
            made, about = level_stepped(rule, picture), bars(rule)
            for level in range(-5, 6):
                if level > picture[0]:
                    self.assertEqual(marked_from(made, level), stepped(rule, marked_from(picture, level)))
                else:
                    holes = holes_below(picture, level)
                    self.assertEqual(set(holes_below(made, level)), step(about, set(holes)))

    def test_more_than_60_bars(self):
        self.refused(TooGreat(60), bars, BARRED)
        # A hole comes where each need has a place with one.
        holes = tuple(sorted((3 * k + k % 3, k) for k in range(6)))
        picture = (3, tuple((place, -7) for place in holes))
        self.assertEqual(level_stepped(BARRED, picture), (3, (((0, 0), -7),)))
        self.assertEqual(level_stepped(BARRED, (3, picture[1][1:])), (3, ()))
        draw = drawings(1, 467)[0]
        for _ in range(20):
            picture = drawn_picture(draw, 40, 6)
            self.assertEqual(level_stepped(BARRED, picture), plain_step(BARRED, picture))

    def test_more_than_400_changes(self):
        one = (0, tuple((place, 2) for place in WHOLE))
        for picture in (one, (0, one[1][:200] + tuple((p, -2) for p, n in one[1][200:]))):
            self.refused(TooGreat(400), level_stepped, (((0, 0),), ((20, 0),)), one)
            self.assertEqual(len(level_stepped(STAY, picture)[1]), 400)
        self.refused(TooGreat(400), level_stepped, LEFT, one)
        self.refused(TooGreat(400), level_stepped, (((0, 0), (1, 0)),), picture_turned(one))
        self.assertEqual(len(level_stepped(LEFT, (0, tuple((place, 2) for place in box(19, 20))))[1]), 400)
        # Changes above the ground and below it are counted together.
        both = (0, tuple(sorted([((x, y), 1) for x, y in box(13, 15)] + [((x, y - 99), -1) for x, y in box(13, 15)])))
        made = level_stepped(LEFT, both)
        self.assertEqual([sum(n == m for p, n in made[1]) for m in (1, -1)], [14 * 15, 12 * 15])
        wide = (0, tuple(sorted([((x, y), 1) for x, y in box(1, 200)] + [((x, y - 300), -1) for x, y in box(2, 100)])))
        self.refused(TooGreat(400), level_stepped, LEFT, wide)

    def test_behind_every_step(self):
        picture, counts = (0, tuple((place, 1) for place in WHOLE)), [400]
        while counts[-1] > 0:
            picture = plain_step(WIDE, picture)
            counts.append(len(picture[1]))
        first = next(n for n, many in enumerate(counts) if many > 400)
        start = (0, tuple((place, 1) for place in WHOLE))
        self.assertEqual(len(level_steps(WIDE, start, first - 1)[1]), counts[first - 1])
        # Fewer are left later.
        self.assertTrue(first + 2 < len(counts) <= 60 and counts[-2] < 400, counts)
        for times in (first, len(counts), 60):
            self.refused(TooGreat(400), level_steps, WIDE, start, times)
        self.refused(TooGreat(400), level_steps, bars(WIDE), picture_turned(start), 60)
        self.refused(TooGreat(400), level_steps, LEFT, (0, start[1][:-20]), 2)
        self.assertEqual(len(level_steps(LEFT, (0, start[1][:-20]), 1)[1]), 400)

    def test_facts(self):
        for draw in drawings(80, 468):
            rule = drawn_rule(draw, 3, 3, 2)
            one, other = drawn_picture(draw), drawn_picture(draw)
            made = level_stepped(rule, one)
            # Levels changed in an order-keeping way ahead of a step, or behind it.
            change = {n: 3 * n + 10 for n in range(-4, 5)}
            changed = [(change[p[0]], tuple((place, change[n]) for place, n in p[1])) for p in (one, made)]
            self.assertEqual(level_stepped(rule, changed[0]), changed[1])
            low, high = -2, 1
            self.assertEqual(level_stepped(rule, picture_cut(one, low, high)), picture_cut(made, low, high))
            about = outcome(bars, rule)
            self.assertEqual(level_stepped(about, picture_turned(one)), picture_turned(made))
            # What is nowhere lower is led to what is nowhere lower.
            top = higher_of(one, other)
            self.assertEqual(higher_of(level_stepped(rule, top), made), level_stepped(rule, top))
            levels = [n for p, n in one[1]] + [one[0]]
            self.assertTrue(all(min(levels) <= n <= max(levels) for p, n in made[1]))

    def test_parameters(self):
        self.refused(BadRule(()), level_stepped, None, None)
        self.refused(BadRule((1,)), level_steps, (((1, 0),), ((0, 0),)), None, None)
        for times in (-1, 61, True, None, 1.0, "1"):
            self.refused(BadParameter(times), level_steps, TWO, PICTURE, times)


class Cleaned(Case):

    def test_cleans(self):
        self.assertIs(cleans(TWO), True)
        self.assertIs(cleans(rule=LEFT), False)
        self.assertIs(cleans(STAY), False)
        self.assertIs(cleans(TWO_OF_FOUR), False)
        # Islands die, holes do not.
        self.assertEqual(plain_corners(plain_fan(THIN)), ())
        self.assertNotEqual(plain_corners(plain_fan(bars(THIN))), ())
        self.assertIs(cleans(THIN), False)
        self.assertIs(cleans(bars(THIN)), False)
        kinds = set()
        for draw in drawings(150, 469):
            rule = drawn_rule(draw, 4, 4, 2)
            empty = [not plain_corners(plain_fan(needs)) for needs in (rule, bars(rule))]
            self.assertIs(cleans(rule), all(empty))
            kinds.add(tuple(empty))
        self.assertEqual(len(kinds), 4)

    def test_cleans_too_great(self):
        self.refused(TooGreat(60), cleans, BARRED)
        self.refused(TooGreat(60), cleans, FAN_61)
        self.refused(TooGreat(60), cleans, FAN_34)
        # The answer does not keep a refusal away: its core is not empty, and it has more than 60 bars.
        many = tuple(sorted((((20, 20),),) + tuple(tuple((3 * k + j - 9, k) for j in range(3)) for k in range(6))))
        self.refused(TooGreat(60), cleans, many)
        self.assertNotEqual(plain_corners(plain_fan(many)), ())
        self.refused(BadRule(()), cleans, None)

    def test_flat_by(self):
        self.assertEqual(flat_by(TWO, PICTURE, DOOM, DOOM), 2)
        self.assertEqual(flat_by(rule=TWO, picture=FLAT, doom=DOOM, counter=DOOM), 0)
        self.assertEqual(flat_by(TWO, (9, PICTURE[1]), DOOM, DOOM), gone_by(TWO, ((0, 0), (0, 1), (4, 4)), DOOM))
        self.assertEqual(flat_by(TWO, (-9, PICTURE[1]), DOOM, DOOM), gone_by(TWO, ((0, 0), (0, 1), (4, 4)), DOOM))
        done = 0
        for draw in drawings(150, 470):
            rule, picture = drawn_rule(draw, 3, 4, 1), drawn_picture(draw, 8, 2)
            about = bars(rule)
            doom, counter = outcome(doom_of, rule), outcome(doom_of, about)
            if (NoRow, {}) in (doom, counter):
                continue
            done += 1
            found = flat_by(rule, picture, doom, counter)
            wanted = [gone_by(rule, marked_from(picture, n), doom) for n in range(picture[0] + 1, 6)]
            wanted += [gone_by(about, holes_below(picture, n), counter) for n in range(-6, picture[0] + 1)]
            self.assertEqual(found, max(wanted))
            self.assertEqual(found == 0, is_flat(picture))
            while found > 0:
                picture, found = plain_step(rule, picture), found - 1
            self.assertIs(is_flat(picture), True)
        self.assertGreater(done, 10)

    def test_dooms_in_their_order(self):
        for wrong in (None, (), DOOM[:2], list(DOOM), ((1, 0), (-1, 0)), LEFT):
            for picture in (PICTURE, FLAT):
                self.refused(BadParameter(wrong), flat_by, TWO, picture, wrong, None)
                self.refused(BadParameter(wrong), flat_by, TWO, picture, DOOM, wrong)
        # The first one is a doom of the rule, the second one of the rule turned about.
        tall = tuple(((-1, k), (1, k)) for k in (0, 1))
        self.refused(BadParameter(((1, 0), (-1, 0))), flat_by, THIN, FLAT, ((1, 0), (-1, 0)), ((1, 0), (-1, 0)))
        self.refused(BadParameter(((1, 0), (-1, 0))), flat_by, bars(tall), FLAT, ((1, 0), (-1, 0)), ((1, 0), (-1, 0)))
        self.assertEqual(flat_by(bars(tall), FLAT, ((0, 1), (0, -1)), ((1, 0), (-1, 0))), 0)
        self.assertEqual(flat_by(tall, (0, (((0, 0), 1),)), ((1, 0), (-1, 0)), ((0, 1), (0, -1))), 1)
        self.assertEqual(flat_by(tall, (0, (((0, 0), -1),)), ((1, 0), (-1, 0)), ((0, 1), (0, -1))), 1)
        self.assertEqual(flat_by(tall, (0, (((0, 0), -1), ((0, 4), -1))), ((1, 0), (-1, 0)), ((0, 1), (0, -1))), 5)
        self.assertEqual(flat_by(tall, (0, (((0, 0), 1), ((4, 0), 1))), ((1, 0), (-1, 0)), ((0, 1), (0, -1))), 3)
        self.refused(BadParameter(None), flat_by, BARRED, FLAT, None, None)
        self.refused(BadRule(()), flat_by, None, None, None, None)

    def test_too_great_ahead_of_counter(self):
        doom = doom_of(BARRED)
        for counter in (None, doom, DOOM):
            self.refused(TooGreat(60), flat_by, BARRED, FLAT, doom, counter)
            self.refused(BadPicture(None), flat_by, BARRED, None, doom, counter)

    def test_squares_are_not_cleaned(self):
        self.assertIs(cleans(SQUARE), False)


if __name__ == "__main__":
    unittest.main()
