"""[43], [44], [45] Many rules in any order."""

import itertools
import unittest

from allislands.dooms import is_doom
from allislands.errors import BadDirection, BadIsland, BadParameter, BadRules, NoRow, TooGreat
from allislands.fans import fan_of, fan_sum, need_fan
from allislands.islands import box
from allislands.orders import (common_doom, gone_in_any, is_common_doom, living_word, word_core, word_fan, word_rule,
                               word_speed, word_stepped, words_alike)
from allislands.rules import behind
from tests.tools import (AXES, FAN_60, FAN_61, FAR, FOUR, LEFT, ODD, OFTEN, STAY, TWO, TWO_OF_FOUR, Case, all_ways,
                         drawings, drawn_island, drawn_places, drawn_rule, outcome, plain_corners, plain_fan,
                         plain_speed, step)

UP = (((0, -1),),)
DOWN = (((0, 1),),)
THIN = (((-1, 0), (1, 0)),)
FLAT = tuple((u, 0) for u in AXES)
PAIR = ((0, 0), (1, 0))
DOOM = ((-1, 0), (0, -1), (1, 1))
RULES = (TWO, LEFT, UP)
WIDE = tuple(((k, 0),) for k in range(8))
HIGH = tuple(((0, k),) for k in range(8))
NO_WORDS = ODD[:12] + ([0], [], (3,), (-1,), (True,), (False,), (None,), (0.0,), ("0",), (0,) * 61, (0, 1, 2, 3),
                       ((0,),))
NO_RULES = ((None, ()), ((), ()), ([TWO], ()), ((TWO,) * 7, ()), ({0: TWO}, ()), (7, ()), (TWO, (0,)), ((None,), (0,)),
            ((TWO, ()), (1,)), ((TWO, LEFT, LEFT[::-1]), (2,)), ((TWO, 7, None), (1,)), ((TWO, [((0, 0),)]), (1,)))


def drawn_rules(draw, most=4, needs=3, places=3, size=2):
    return tuple(drawn_rule(draw, needs, places, size) for _ in range(draw.randint(1, most)))


def drawn_word(draw, rules, most=5):
    return tuple(draw.randrange(len(rules)) for _ in range(draw.randint(0, most)))


def plain_word(rules, word, marks):
    for k in word:
        marks = step(rules[k], marks)
    return marks


def is_plain_doom(rules, value):
    total = (sum(a for a, b in value), sum(b for a, b in value))
    return total == (0, 0) and all(sum(plain_speed(rule, u) for u in value) < 0 for rule in rules)


class Parameters(Case):

    def test_rules(self):
        calls = ((word_stepped, (None, None)), (word_rule, (None,)), (words_alike, (None, None)),
                 (word_speed, (None, None, None)), (word_fan, (None,)), (word_core, (None,)), (is_common_doom, (None,)),
                 (common_doom, (None,)), (gone_in_any, (None, None)), (living_word, (None,)))
        for call, rest in calls:
            for rules, place in NO_RULES:
                self.refused(BadRules(place), call, rules, *rest)
        for many in (1, 6):
            self.assertEqual(word_stepped((LEFT,) * many, (many - 1,), ((0, 0),)), ((-1, 0), (0, 0)))
        self.assertEqual(word_stepped((TWO, TWO), (0, 1), PAIR), ())

    def test_words(self):
        for word in NO_WORDS:
            if word == ():
                continue
            for call, rest in ((word_stepped, (None,)), (word_rule, ()), (words_alike, (None,)),
                               (word_speed, (None, None)), (word_fan, ()), (word_core, ())):
                self.refused(BadParameter(word), call, RULES, word, *rest)
            self.refused(BadParameter(word), words_alike, RULES, (), word)
        self.refused(BadParameter((1,)), word_rule, (TWO,), (1,))
        self.assertEqual(word_stepped(RULES, (2,) * 60, ((0, 0),)), ((0, 60),))
        self.assertEqual(word_stepped(RULES, (), PAIR), PAIR)


class Words(Case):

    def test_the_first_one_first(self):
        self.assertEqual(word_stepped((TWO, LEFT), (0, 1), ((0, 0), (1, 0))), ((-1, 0), (0, 0)))
        self.assertEqual(word_stepped(rules=(TWO, LEFT), word=(1, 0), island=((0, 0), (1, 0))), ((-1, 0), (0, 0)))
        self.assertEqual(word_stepped((TWO, LEFT), (0, 1), ((0, 0),)), ())
        self.assertEqual(word_stepped((TWO, LEFT), (1, 0), ((0, 0),)), ((-1, 0),))
        self.assertEqual(word_rule((TWO, LEFT), (1, 0)), behind(LEFT, TWO))
        self.assertEqual(word_rule((TWO, LEFT), (0, 1)), behind(TWO, LEFT))
        self.assertEqual(word_rule(rules=RULES, word=(2, 2, 1)), (((0, -2),), ((1, -2),)))
        self.assertEqual(word_rule(RULES, ()), STAY)
        self.assertEqual(word_rule(RULES, (0,)), TWO)

    def test_drawn_ones(self):
        for draw in drawings(150, 430):
            rules = drawn_rules(draw)
            word, island = drawn_word(draw, rules), drawn_island(draw, 10, 3)
            marks = plain_word(rules, word, set(island))
            self.assertEqual(outcome(word_stepped, rules, word, island), tuple(sorted(marks)))
            made = outcome(word_rule, rules, word)
            if made != (TooGreat, {"most": 60}):
                self.assertEqual(step(made, set(island)), marks)
            if len(word) == 2:
                self.assertEqual(made, outcome(behind, rules[word[0]], rules[word[1]]))

    def test_the_rule_may_be_beyond_parameters_on_the_way(self):
        far = (((20, 0),),)
        self.assertEqual(word_rule((far, LEFT), (0, 0, 0, 1)), (((60, 0),), ((61, 0),)))
        self.assertEqual(word_rule(((PAIR,),), (0,) * 60), (tuple((k, 0) for k in range(61)),))

    def test_400_places_behind_every_rule(self):
        whole = box(20, 20)
        self.assertEqual(word_stepped((STAY, TWO), (0, 0), whole), whole)
        self.refused(TooGreat(400), word_stepped, (LEFT, TWO), (0,), whole)
        # Fewer would be left later.
        self.refused(TooGreat(400), word_stepped, (LEFT, THIN), (0, 1, 1, 1), whole)
        self.assertEqual(len(word_stepped((LEFT, THIN), (1, 0), whole)), 380)
        self.assertEqual(len(word_stepped((LEFT, THIN), (0,), box(19, 20))), 400)
        self.refused(TooGreat(400), word_stepped, (LEFT, THIN), (0, 0, 1), box(19, 20))

    def test_more_than_60_needs(self):
        self.refused(TooGreat(60), word_rule, (WIDE, HIGH), (0, 1))
        self.assertEqual(len(word_rule((WIDE, HIGH[:7]), (0, 1))), 56)
        self.refused(TooGreat(60), word_rule, (TWO,), (0,) * 4)
        self.assertEqual(len(word_rule((LEFT,), (0,) * 59)), 60)
        self.refused(TooGreat(60), word_rule, (LEFT,), (0,) * 60)
        self.refused(TooGreat(60), words_alike, (WIDE, HIGH), (0, 1), (0,))
        self.refused(TooGreat(60), words_alike, (WIDE, HIGH), (0,), (0, 1))
        self.refused(TooGreat(60), words_alike, (WIDE, HIGH), (0, 1), (0, 1))

    def test_words_alike(self):
        self.assertIs(words_alike((TWO, UP), (0, 1), (1, 0)), True)
        self.assertIs(words_alike(rules=(TWO, LEFT), one=(0, 1), other=(1, 0)), behind(TWO, LEFT) == behind(LEFT, TWO))
        self.assertIs(words_alike((UP, DOWN), (0, 1, 1, 0), ()), True)
        self.assertIs(words_alike((UP, DOWN), (0,), (1,)), False)
        self.assertIs(words_alike((UP, UP), (0,), (1,)), True)
        kinds = set()
        for draw in drawings(100, 431):
            rules = drawn_rules(draw, 2, 2, 2, 1)
            one, other = drawn_word(draw, rules, 2), drawn_word(draw, rules, 2)
            alike = outcome(words_alike, rules, one, other)
            if alike in (True, False):
                kinds.add((alike, one == other))
                islands = [drawn_island(draw, 9, 2) for _ in range(40)]
                if alike:
                    self.assertTrue(all(word_stepped(rules, one, i) == word_stepped(rules, other, i) for i in islands))
                else:
                    needs = word_rule(rules, one) + word_rule(rules, other)
                    self.assertTrue(any(plain_word(rules, one, set(n)) != plain_word(rules, other,
                                                                                     set(n)) for n in needs))
        self.assertEqual(kinds, {(True, True), (True, False), (False, False)})

    def test_which_refusal_comes_first(self):
        self.refused(BadParameter((2,)), words_alike, (WIDE, HIGH), (2,), (3,))
        self.refused(BadParameter((3,)), words_alike, (WIDE, HIGH), (0, 1), (3,))
        self.refused(BadIsland(PAIR[::-1]), word_stepped, RULES, (), PAIR[::-1])
        self.refused(BadParameter((9,)), word_stepped, RULES, (9,), PAIR[::-1])


class Speeds(Case):

    def test_word_speed(self):
        self.assertEqual(word_speed(RULES, (0, 1, 2), (1, 1), 1), -1 + 0 + 1)
        self.assertEqual(word_speed(rules=RULES, word=(1, 1, 1), direction=(-3, 0), rounds=OFTEN), 9 * OFTEN)
        self.assertEqual(word_speed(RULES, (0, 1), (1, 1), 0), 0)
        self.assertEqual(word_speed(RULES, (), (1, 1), OFTEN), 0)
        for rounds in (-1, OFTEN + 1, True, None, 1.0, "1"):
            self.refused(BadParameter(rounds), word_speed, RULES, (), (1, 1), rounds)
        for way in ((0, 0), (FAR + 1, 0), None):
            self.refused(BadDirection(way), word_speed, RULES, (), way, None)
        for draw in drawings(60, 432):
            rules = drawn_rules(draw)
            word, u, rounds = drawn_word(draw, rules), draw.choice(all_ways(4)), draw.choice((1, 7, 10 ** 20))
            self.assertEqual(word_speed(rules, word, u, rounds), rounds * sum(plain_speed(rules[k], u) for k in word))

    def test_nothing_done(self):
        for rules in (RULES, (TWO,), (FAN_61,)):
            self.assertEqual(word_fan(rules, ()), FLAT)
            self.assertEqual(word_core(rules, ()), ((0, 0, 1),))

    def test_fans_and_cores_in_any_order(self):
        for draw in drawings(50, 433):
            rules = drawn_rules(draw, 3)
            word = drawn_word(draw, rules, 4)
            made = word_fan(rules, word)
            self.assertEqual(need_fan(made), made)
            for u, s in made:
                self.assertEqual(word_speed(rules, word, u, 1), s)
            wanted = FLAT
            for k in word:
                wanted = fan_sum(wanted, fan_of(rules[k]))
            self.assertEqual(made, wanted)
            self.assertEqual(word_core(rules, word), plain_corners(made))
            turned = list(word)
            draw.shuffle(turned)
            self.assertEqual(word_fan(rules, tuple(turned)), made)
            self.assertEqual(word_core(rules, tuple(turned)), word_core(rules, word))
            rule = outcome(word_rule, rules, word)
            if rule != (TooGreat, {"most": 60}):
                self.assertEqual(plain_fan(rule), made)

    def test_examples(self):
        self.assertEqual(word_core((TWO, UP), (0, 1)), ())
        self.assertEqual(word_core(rules=(TWO, UP), word=(1,)), ((0, 1, 1),))
        self.assertEqual(word_core((LEFT, UP), (0, 1, 1, 0)), ((-2, 2, 1), (0, 2, 1)))
        self.assertEqual(word_fan(rules=(LEFT, UP), word=(0, 1)),
                         (((1, 0), 0), ((0, 1), 1), ((-1, 0), 1), ((0, -1), -1)))

    def test_too_great(self):
        for call in (word_fan, word_core):
            self.refused(TooGreat(60), call, (FAN_61,), (0,))
            self.refused(TooGreat(60), call, (TWO, FAN_61), (0, 0, 1))
            # Each of them may have 60 directions, the sum not.
            self.refused(TooGreat(60), call, (FAN_60, TWO_OF_FOUR, FOUR), (0, 1, 2))
        self.assertEqual(len(word_fan((FAN_60,), (0,))), 60)
        # A rule that the word does not have is not asked.
        self.assertEqual(word_fan((LEFT, FAN_61), (0,)), fan_of(LEFT))


class CommonDooms(Case):

    def test_examples(self):
        self.assertEqual(common_doom((TWO,), 1), DOOM)
        self.assertIs(is_common_doom((TWO,), DOOM), True)
        grid = [(a, b) for a in (-1, 0, 1) for b in (-1, 0, 1) if (a, b) != (0, 0)]
        found = [v for many in (2, 3) for v in itertools.combinations(sorted(grid), many) if is_common_doom((TWO,), v)]
        self.assertEqual(found, [DOOM])
        for size in (1, 2, 3, 4):
            self.refused(NoRow(), common_doom, (TWO, UP), size)
        self.assertEqual(living_word((TWO, UP), 2), (1,))
        self.assertEqual(gone_in_any((TWO,), PAIR, DOOM), 2)

    def test_is_common_doom(self):
        self.assertIs(is_common_doom(rules=(TWO, THIN), value=((1, 0), (-1, 0))), False)
        self.assertIs(is_common_doom((THIN,), ((1, 0), (-1, 0))), True)
        # The same direction twice is let here, too.
        self.assertIs(is_common_doom((THIN,), ((2, 0), (-1, 0), (-1, 0))), True)
        for value in itertools.permutations(DOOM):
            self.assertIs(is_common_doom((TWO, TWO), value), True)
        wrong = [DOOM[:2], DOOM[:1], (), list(DOOM), DOOM + ((1, 0), (-1, 0)), ((-1, 0), (0, -1), (1, 1), (0, 0)),
                 ((-1, 0), (0, -1), (1, 2)), ((0, 0), (0, 0)), ((1, 0), (-1, 0)), ([-1, 0], (0, -1), (1, 1)), LEFT,
                 ((-FAR - 1, 0), (0, -FAR - 1), (FAR + 1, FAR + 1)), ((-1, 0), (0, True), (1, -1)), ((-1, 0), (1, 0.0))]
        for value in wrong + list(ODD):
            self.assertIs(is_common_doom((TWO,), value), False, value)
        kinds = set()
        for draw in drawings(300, 434):
            rules = drawn_rules(draw, 2, 2, 5, 2)
            one, other = draw.choice(all_ways(2)), draw.choice(all_ways(2))
            third = (-one[0] - other[0], -one[1] - other[1])
            value = (one, other) if third == (0, 0) else (one, other, third)
            wanted = is_plain_doom(rules, value)
            kinds.add((wanted, len(value), len(rules)))
            self.assertIs(is_common_doom(rules, value), wanted)
            self.assertIs(all(is_doom(rule, value) for rule in rules), wanted)
        self.assertEqual(len(kinds), 8)

    def test_the_least_one_of_all(self):
        kinds = set()
        for draw in drawings(40, 435):
            rules = drawn_rules(draw, 2, 2, 6, 2)
            for size in (1, 2) if draw.random() < 0.8 else (3,):
                grid = [(a, b) for a in range(-size, size + 1) for b in range(-size, size + 1) if (a, b) != (0, 0)]
                dooms = [v for many in (2, 3) for v in itertools.combinations(grid, many)
                         if sum(a for a, b in v) == 0 and sum(b for a, b in v) == 0 and is_plain_doom(rules, v)]
                found = outcome(common_doom, rules, size)
                kinds.add((size, min(map(len, dooms), default=0), len(min(dooms, default=()))))
                self.assertEqual(found, min(dooms) if dooms else (NoRow, {}))
        self.assertTrue({(1, 0, 0), (1, 2, 3), (2, 2, 3), (3, 2, 3)} <= kinds, kinds)
        # Two directions alone, and both in three: the tuple of two is the least one.
        self.assertEqual(common_doom((THIN,), 1), ((-1, -1), (0, 1), (1, 0)))
        tall = tuple(((-1, k), (1, k)) for k in range(-3, 4))
        self.assertEqual(common_doom((THIN, tall), 1), ((-1, 0), (1, 0)))
        # Its directions are unlike: of size 2 three of them with one twice are none.
        self.assertEqual(common_doom((tall,), 2), ((-2, 0), (2, 0)))
        self.assertIs(is_common_doom((tall,), ((-2, 0), (1, 0), (1, 0))), True)
        self.assertEqual(common_doom((tuple(((k, -1), (k, 1)) for k in range(-3, 4)),), 1), ((0, -1), (0, 1)))

    def test_size_4(self):
        # Slow only in directions with great numbers.
        rule = (((0, 0), (1, 4)), ((0, 0), (4, 1)))
        found = outcome(common_doom, (rule,), 4)
        grid = sorted((a, b) for a in range(-4, 5) for b in range(-4, 5) if (a, b) != (0, 0))
        dooms = []
        for one, other in itertools.combinations(grid, 2):
            third = (-one[0] - other[0], -one[1] - other[1])
            value = (one, other) if third == (0, 0) else (one, other, third)
            if (len(value) == 2 or (third in grid and third > other)) and is_plain_doom((rule,), value):
                dooms.append(value)
        self.assertEqual(found, min(dooms))
        for size in (0, 5, -1, True, None, 1.0, "1"):
            self.refused(BadParameter(size), common_doom, (TWO,), size)
            self.refused(BadParameter(size), living_word, (UP,), size)

    def test_in_whatever_order(self):
        done = 0
        for draw in drawings(120, 436):
            rules = drawn_rules(draw, 3, 2, 6, 2)
            doom = outcome(common_doom, rules, 2)
            if doom == (NoRow, {}):
                continue
            done += 1
            island = drawn_island(draw, 9, 2)
            last = gone_in_any(rules, island, doom)
            if last < 15:
                marks = set(island)
                for _ in range(last):
                    marks = step(draw.choice(rules), marks)
                self.assertFalse(marks)
            if island:
                reached = sum(max(a * x + b * y for x, y in island) for a, b in doom)
                slowest = max(sum(plain_speed(rule, u) for u in doom) for rule in rules)
                self.assertLess(reached + last * slowest, 0)
                self.assertGreaterEqual(reached + (last - 1) * slowest, 0)
            # No word of the rules lives.
            self.refused(NoRow(), living_word, rules, 2)
        self.assertGreater(done, 30)

    def test_gone_in_any(self):
        self.assertEqual(gone_in_any(rules=(TWO,), island=(), doom=DOOM), 0)
        self.assertEqual(gone_in_any((TWO,), ((-10 ** 9, -10 ** 9), (10 ** 9, 10 ** 9)), DOOM), 4 * 10 ** 9 + 1)
        slow = (((0, 0), (0, 2)), ((0, 0), (2, 0)), ((0, 2), (2, 0)))
        self.assertEqual(gone_in_any((slow,), PAIR, DOOM), 1)
        self.assertEqual(gone_in_any((slow, TWO), PAIR, DOOM), 2)
        self.assertEqual(gone_in_any((TWO, slow), PAIR, DOOM), 2)
        self.refused(BadIsland(PAIR[::-1]), gone_in_any, (TWO,), PAIR[::-1], None)
        for doom in (None, (), DOOM[:2], list(DOOM), ((1, 0), (-1, 0))):
            self.refused(BadParameter(doom), gone_in_any, (TWO,), (), doom)
        self.refused(BadParameter(DOOM), gone_in_any, (TWO, UP), (), DOOM)


class LivingWords(Case):

    def test_examples(self):
        self.assertEqual(living_word((LEFT,), 1), (0,))
        self.assertEqual(living_word(rules=(TWO, THIN, LEFT), length=1), (2,))
        self.refused(NoRow(), living_word, (TWO,), 4)
        self.refused(NoRow(), living_word, (TWO, THIN), 3)

    def test_the_least_one_of_all(self):
        kinds = set()
        for draw in drawings(40, 437):
            rules = drawn_rules(draw, 3, 3, 3, 1)
            length = draw.randint(1, 4)
            words = sorted(w for n in range(1, length + 1) for w in itertools.product(range(len(rules)), repeat=n))
            living = [w for w in words if word_core(rules, w)]
            found = outcome(living_word, rules, length)
            self.assertEqual(found, living[0] if living else (NoRow, {}))
            kinds.add(len(living[0]) if living else 0)
        self.assertTrue({0, 1} <= kinds)

    def test_two_that_die_live_together(self):
        # One place less across and one more up behind each step; three more across and three less up.
        high = (((0, 0), (1, 0)), ((0, 1), (1, 1)))
        broad = tuple(((k, 0), (k, 3)) for k in range(4))
        for rules in ((high,), (broad,), (high, high), (broad, broad)):
            self.refused(NoRow(), living_word, rules, 4)
        for rules, wanted in (((high, broad), (0, 0, 0, 1)), ((broad, high), (0, 1, 1, 1)),
                              ((broad, broad, high), (0, 2, 2, 2))):
            self.assertEqual(living_word(rules, 4), wanted)
        # A longer word comes ahead of a shorter one with greater numbers.
        self.assertEqual(living_word((high, broad, LEFT), 4), (0, 0, 0, 1))
        self.assertEqual([living_word((high, broad, LEFT), n) for n in (1, 2, 3)], [(2,), (0, 2), (0, 2)])
        self.assertEqual(word_core((high, broad), (0, 0, 0, 1)), ((-3, -3, 1),))
        self.refused(NoRow(), living_word, (high, broad), 3)
        for size in (1, 2, 3, 4):
            self.refused(NoRow(), common_doom, (high, broad), size)

    def test_too_great(self):
        # The words are taken in their order, so what comes first hangs on it.
        self.refused(TooGreat(60), living_word, (TWO, FAN_61, LEFT), 1)
        self.refused(TooGreat(60), living_word, (FAN_61, LEFT), 1)
        self.assertEqual(living_word((LEFT, FAN_61), 1), (0,))
        self.assertEqual(living_word((LEFT, FAN_61), 4), (0,))
        self.refused(TooGreat(60), living_word, (TWO, FAN_61), 2)


if __name__ == "__main__":
    unittest.main()
