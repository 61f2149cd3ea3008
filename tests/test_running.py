"""[42] Rows behind any number of steps."""

import unittest

from allislands.errors import BadParameter, BadRow, BadRule, NoRow, TooGreat
from allislands.rows import dies_out, is_long, row_speeds, row_stepped
from allislands.running import row_last, run
from tests.tools import MOST, OFTEN, Case, drawings, drawn_row, drawn_row_rule, is_in_row, outcome, row_step

MIDDLE = ((-1, 0), (-1, 1), (0, 1))
GROWS = ((0,), (1,))
SHRINKS = ((0, 1),)
FULL = ((None, None),)
# A stretch up to 1000 places long is never long, and loses its last place by each step.
SLOW = ((-500, 500), (0, 1))
# A mark and those that come of it are never long, and are one more behind each step.
SPREADS = ((-5000, 5000), (0,), (1,))


def moved(row, way):
    return tuple((None if l is None else l + way, None if r is None else r + way) for l, r in row)


def is_moved(row, behind):
    """Whether one row is another one moved: by its first number to that of the other, or by anything."""
    told, found = [[end for ends in each for end in ends if end is not None] for each in (row, behind)]
    return len(told) == len(found) and moved(row, found[0] - told[0] if told else 0) == behind


def plain_run(rule, row, times):
    """All steps one by one, those counted that neither move the row nor lead a long one."""
    lone = 0
    for _ in range(times):
        try:
            behind = row_stepped(rule, row)
        except TooGreat:
            if lone == 400:
                raise TooGreat(400) from None
            raise
        if not is_moved(row, behind) and not is_long(rule, row):
            if lone == 400:
                raise TooGreat(400)
            lone += 1
        row = behind
    return row


class Run(Case):

    def test_examples(self):
        self.assertEqual(run(MIDDLE, ((0, 0), (2, 2), (5, 9)), 1), ((1, 1), (5, 9)))
        self.assertEqual(run(MIDDLE, ((0, 0), (2, 2), (5, 9)), 2), ((5, 9),))
        self.assertEqual(run(rowrule=MIDDLE, row=((0, 0), (2, 2), (5, 9)), times=MOST), ((5, 9),))
        self.assertEqual(run(GROWS, ((0, 0), (10, 10)), OFTEN), ((-OFTEN, 10),))
        self.assertEqual(run(GROWS, ((0, 0), (10, 10)), 5), ((-5, 0), (5, 10)))
        self.assertEqual([run(GROWS, ((0, 0), (10, 10)), n) for n in (8, 9, 10)],
                         [((-8, 0), (2, 10)), ((-9, 10),), ((-10, 10),)])

    def test_no_step(self):
        for row in ((), FULL, ((0, 0), (2, 2)), ((None, MOST),)):
            self.assertEqual(run(MIDDLE, row, 0), row)

    def test_against_steps_one_by_one(self):
        kinds = set()
        for draw in drawings(400, 420):
            rule, row = drawn_row_rule(draw, 3, 3, draw.choice((3, 3, 300))), drawn_row(draw, 4, 8)
            times = draw.randint(1, 25)
            wanted = outcome(plain_run, rule, row, times)
            self.assertEqual(outcome(run, rule, row, times), wanted, (rule, row, times))
            kinds.add(wanted[0] if wanted and wanted[0] is TooGreat else None)
        self.assertEqual(kinds, {None, TooGreat})

    def test_many_steps_against_steps_one_by_one(self):
        kinds = set()
        for draw in drawings(30, 421):
            rule, row = drawn_row_rule(draw, 2, 2, 2), drawn_row(draw, 3, 400)
            for times in (390, 700):
                wanted = outcome(plain_run, rule, row, times)
                self.assertEqual(outcome(run, rule, row, times), wanted)
                kinds.add(wanted[0] if wanted and wanted[0] is TooGreat else sum(row_speeds(rule)))
        self.assertTrue({-1, 0, 1} <= kinds, kinds)

    def test_so_many_and_then_more(self):
        done = 0
        for draw in drawings(150, 422):
            rule, row = drawn_row_rule(draw, 3, 3, 3), drawn_row(draw, 4, 8)
            first, rest = draw.choice((3, 10 ** 9, OFTEN)), draw.choice((1, 17, OFTEN))
            found = outcome(run, rule, row, first)
            if found and found[0] is TooGreat:
                self.assertEqual(outcome(run, rule, row, first + rest), found)
                continue
            wanted = outcome(run, rule, row, first + rest)
            if first == 3 or all(end is None or abs(end) <= MOST for ends in found for end in ends):
                done += 1
                self.assertEqual(outcome(run, rule, found, rest), wanted)
        self.assertGreater(done, 100)

    def test_rows_that_stay_or_are_moved(self):
        self.assertEqual(run(((5,),), ((0, 0), (2, 9)), MOST), ((-5 * MOST, -5 * MOST), (2 - 5 * MOST, 9 - 5 * MOST)))
        self.assertEqual(run(((-7,),), ((None, MOST),), MOST), ((None, 8 * MOST),))
        for row in ((), FULL, ((0, 1),), ((3, 4), (7, 99))):
            self.assertEqual(run(MIDDLE, row, MOST), row)
        # Short stretches that stay, though the speeds let others grow, and though a step joins two.
        self.assertEqual(run(((0,), (1, 2)), ((0, 0), (2, 2), (4, 4)), MOST), ((0, 0), (2, 2), (4, 4)))
        self.assertEqual(run(((-1, 1), (0,)), ((0, 0), (2, 2), (4, 4)), MOST), ((0, 4),))
        # Moved by each step but the first one, which takes the mark that has none beside it.
        rule = ((2, 3), (3, 4))
        self.assertEqual(row_stepped(rule, ((0, 1), (9, 9))), ((-3, -2),))
        self.assertEqual(run(rule, ((0, 1), (9, 9)), MOST), ((-3 * MOST, 1 - 3 * MOST),))

    def test_long_rows_that_grow_until_two_meet(self):
        gap = 10 ** 40
        row = ((0, 5), (gap, gap + 5), (3 * gap, 3 * gap + 5))
        rule = ((-1,), (0,), (2,))
        self.assertEqual(row_speeds(rule), (2, 1))
        many = (gap - 6) // 3
        self.assertEqual(run(rule, row, many), ((-2 * many, 5 + many), (gap - 2 * many, gap + 5 + many),
                                                (3 * gap - 2 * many, 3 * gap + 5 + many)))
        self.assertEqual(run(rule, row, gap // 2), ((-gap, gap + 5 + gap // 2), (2 * gap, 3 * gap + 5 + gap // 2)))
        self.assertEqual(run(rule, row, gap), ((-2 * gap, 4 * gap + 5),))
        # The gap goes by as many places as both speeds together, and then is too short for another step at once.
        for gap in range(1, 30):
            for times in range(1, 12):
                row = ((0, 5), (6 + gap, 90))
                self.assertEqual(run(rule, row, times), plain_run(rule, row, times))

    def test_long_rows_that_shrink(self):
        rule = ((-1, 2), (0, 1))
        self.assertEqual(row_speeds(rule), (0, -1))
        for row in (((0, 9),), ((0, 40), (45, 99)), ((None, 4), (9, 30), (77, None)), ((0, 10), (50, 53))):
            for times in range(0, 60):
                self.assertEqual(run(rule, row, times), plain_run(rule, row, times))
        self.assertEqual(run(SHRINKS, ((0, MOST),), MOST), ((0, 0),))
        self.assertEqual(run(SHRINKS, ((-1, MOST - 1),), MOST), ((-1, -1),))
        self.assertEqual(run(SHRINKS, ((1, MOST),), MOST), ())
        self.assertEqual(run(SHRINKS, ((0, MOST),), OFTEN), ((0, MOST - OFTEN),))
        self.assertEqual(run(SHRINKS, ((None, 0), (10, OFTEN), (2 * OFTEN, None)), OFTEN),
                         ((None, -OFTEN), (2 * OFTEN, None)))

    def test_short_and_long_stretches(self):
        # The short one keeps the row from being long until it goes.
        row = ((0, 0), (10, 10 ** 20))
        self.assertEqual(run(SHRINKS, row, 10 ** 19), ((10, 10 ** 20 - 10 ** 19),))
        row = ((0, 5), (100, 10 ** 20))
        self.assertEqual(run(SHRINKS, row, 10 ** 19), ((100, 10 ** 20 - 10 ** 19),))

    def test_more_than_60_stretches_by_a_step(self):
        row = tuple((4 * k, 4 * k) for k in range(31))
        self.refused(TooGreat(60), run, ((0,), (1002,)), row, 1)
        self.refused(TooGreat(60), run, ((0,), (1002,)), row, MOST)
        self.assertEqual(len(run(((0,), (1002,)), row[:30], 1)), 60)
        self.assertEqual(run(((0,), (1002,)), row, 0), row)
        self.refused(TooGreat(60), run, ((0,), (10 ** 6, ), (2 * 10 ** 7,)), ((0, 0),), 30)

    def test_400_steps_one_by_one(self):
        for n in (0, 1, 399, 400):
            self.assertEqual(run(SLOW, ((0, 600),), n), ((0, 600 - n),))
        for n in (401, 402, 10 ** 9, MOST):
            self.refused(TooGreat(400), run, SLOW, ((0, 600),), n)
        # Just 400 of them, then nothing is left to do.
        self.assertEqual(run(SLOW, ((0, 399),), 400), ())
        self.assertEqual(run(SLOW, ((0, 399),), MOST), ())
        self.assertEqual(run(SLOW, ((0, 400),), 400), ((0, 0),))
        self.refused(TooGreat(400), run, SLOW, ((0, 400),), 401)

    def test_steps_at_once_are_not_counted(self):
        far = 10 ** 50
        self.assertEqual(run(SLOW, ((0, far),), far - 999), ((0, 999),))
        self.assertEqual(run(SLOW, ((0, far),), far - 599), ((0, 599),))
        self.assertEqual(run(SLOW, ((0, far),), far - 998), ((0, 998),))
        # Long down to 1001 places; the steps from 1000 places on are done one by one.
        self.assertEqual(run(SLOW, ((0, far),), far - 999 + 400), ((0, 599),))
        self.refused(TooGreat(400), run, SLOW, ((0, far),), far - 999 + 401)
        # Moved rows, too.
        self.assertEqual(run(((0, 1000), (5,)), ((0, 0),), MOST), ((-5 * MOST, -5 * MOST),))

    def test_ahead_of_the_401st_step(self):
        # Two marks each of which is a stretch, longer by one behind each step; as soon as there are two marks
        # as far apart as the needs of two ask, there are many more stretches than 60.
        row = ((0, 0), (10 ** 6, 10 ** 6))
        for apart, times, most in ((399, 400, 60), (400, 400, None), (400, 401, 400), (401, 500, 400), (390, 500, 60)):
            pairs = tuple((20000 * k, 20000 * k + apart) for k in range(1, 41))
            rule = SPREADS + pairs
            if most is None:
                self.assertEqual(run(rule, row, times), ((-400, 0), (10 ** 6 - 400, 10 ** 6)))
            else:
                self.refused(TooGreat(most), run, rule, row, times)

    def test_parameters(self):
        self.refused(BadRule(()), run, None, None, None)
        self.refused(BadRule((1,)), run, ((1,), (0,)), None, None)
        self.refused(BadRow(((1, 0),)), run, GROWS, ((1, 0),), None)
        for times in (-1, MOST + 1, True, False, None, 1.0, "1"):
            self.refused(BadParameter(times), run, GROWS, ((0, 0),), times)


class Last(Case):

    def test_examples(self):
        self.assertEqual(row_last(SHRINKS, 7), 7)
        self.assertEqual(row_last(rowrule=SHRINKS, wide=1), 1)
        self.assertEqual(row_last(SHRINKS, MOST), MOST)
        self.assertEqual(row_last(((0, 2),), MOST), MOST // 2)
        self.assertEqual(row_last(((0, 2),), MOST - 1), MOST // 2)
        self.assertEqual(row_last(((-10 ** 9, 10 ** 9),), MOST), MOST // (2 * 10 ** 9))

    def test_the_least_number(self):
        done = 0
        for draw in drawings(250, 423):
            rule = drawn_row_rule(draw, 3, 3, 4)
            wide = draw.randint(1, 30)
            if not dies_out(rule):
                self.refused(NoRow(), row_last, rule, wide)
                continue
            done += 1
            last, row = row_last(rule, wide), ((0, wide - 1),)
            for _ in range(last):
                self.assertNotEqual(row, ())
                row = row_stepped(rule, row)
            self.assertEqual(row, ())
            self.assertEqual(run(rule, ((0, wide - 1),), last), ())
            self.assertNotEqual(run(rule, ((0, wide - 1),), last - 1), ())
            self.assertGreaterEqual(row_last(rule, wide + 1), last)
        self.assertGreater(done, 50)

    def test_all_rows_within(self):
        for draw in drawings(60, 424):
            rule, wide = drawn_row_rule(draw, 3, 3, 3), draw.randint(1, 12)
            if dies_out(rule):
                window = range(-99, 99)
                marks = {n for n in range(wide) if draw.random() < 0.7}
                for _ in range(row_last(rule, wide)):
                    marks = {n for n in window if any(all(n + a in marks for a in need) for need in rule)}
                self.assertFalse(marks)

    def test_great_ones(self):
        rule = ((-3, 2), (0, 1))
        for wide in (10 ** 40, 10 ** 40 + 1, MOST - 4):
            last = row_last(rule, wide)
            self.assertEqual(run(rule, ((5, wide + 4),), last), ())
            self.assertNotEqual(run(rule, ((5, wide + 4),), last - 1), ())

    def test_400_steps_one_by_one(self):
        self.assertEqual([row_last(SLOW, wide) for wide in (1, 399, 400)], [1, 399, 400])
        for wide in (401, 1000, 1001, 10 ** 30):
            self.refused(TooGreat(400), row_last, SLOW, wide)

    def test_parameters(self):
        self.refused(BadRule(()), row_last, None, None)
        for wide in (0, -1, MOST + 1, True, None, 1.0, "1"):
            self.refused(BadParameter(wide), row_last, GROWS, wide)
        for rule in (GROWS, MIDDLE, ((5,),)):
            self.refused(NoRow(), row_last, rule, 1)
            self.refused(NoRow(), row_last, rule, MOST)


class Facts(Case):

    def test_a_long_stretch_grows_by_the_speeds(self):
        for draw in drawings(80, 425):
            rule = drawn_row_rule(draw, 3, 3, 3)
            left, right = row_speeds(rule)
            many = draw.choice((1, 5, 10 ** 25))
            if left + right >= 0:
                self.assertEqual(run(rule, ((0, 9),), many), ((-many * left, 9 + many * right),))
            else:
                wide = 10 ** 30
                self.assertEqual(run(rule, ((0, wide),), many), ((-many * left, wide + many * right),))

    def test_half_lines(self):
        for draw in drawings(60, 426):
            rule, end = drawn_row_rule(draw), draw.randint(-MOST, MOST)
            left, right = row_speeds(rule)
            self.assertEqual(run(rule, ((None, end),), OFTEN), ((None, end + OFTEN * right),))
            self.assertEqual(run(rule, ((end, None),), OFTEN), ((end - OFTEN * left, None),))

    def test_place_by_place(self):
        for draw in drawings(60, 427):
            rule, row = drawn_row_rule(draw, 3, 3, 2), drawn_row(draw, 3)
            found = outcome(run, rule, row, 3)
            if found and found[0] is TooGreat:
                continue
            window = range(-30, 60)
            marks = row_step(rule, row, range(-42, 72))
            for _ in range(2):
                marks = {n for n in range(-42, 72)
                         if any(all(n + a in marks or (not -42 <= n + a < 72 and is_in_row(row, n + a)) for a in need)
                                for need in rule)}
            self.assertEqual({n for n in window if is_in_row(found, n)}, marks & set(window))


if __name__ == "__main__":
    unittest.main()
