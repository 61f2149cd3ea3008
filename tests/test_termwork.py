"""[15] What terms do."""

import itertools
import unittest

from allislands.bars import turned_about
from allislands.errors import BadIsland, BadRule, BadTerm, NoRow, TooGreat
from allislands.islands import box, shifted
from allislands.rules import behind, both_marked, either_marked, need_rule, power, stepped
from allislands.terms import need_term
from allislands.termwork import plain_term, term_rule, term_stepped, terms_alike, terms_parted
from tests.tools import (LEFT, MANY, STAY, TWO, Case, drawings, drawn_island, drawn_rule, drawn_term, how_many, outcome,
                         says, step)

AT = ("at", (0, 0))
TWELVE = tuple((k, 0) for k in range(12))
THREE = ((0, 0), (0, 1), (1, 0))
TWO_TERM = ("rank", 2, THREE)
LEFT_TERM = ("most", (AT, ("at", (1, 0))))
ROW = box(400, 1)
REFUSED = (TooGreat, {"most": 60})
# Its rule has 61 needs: what comes of LEFT behind 60 steps.
LONG = ("again", LEFT_TERM, 60)


def few(draw, depth=3, again=3, size=2):
    """A drawn term of at most 20 terms."""
    while True:
        term = drawn_term(draw, depth, again, size)
        if how_many(term) <= 20:
            return term


class TermRule(Case):

    def test_each_word(self):
        one, other = ("least", (AT, ("at", (0, 1)))), ("most", (AT, ("at", (3, -4))))
        first, second = (((0, 0), (0, 1)),), (((0, 0),), ((3, -4),))
        self.assertEqual(term_rule(("at", (-20, 20))), (((-20, 20),),))
        self.assertEqual(term_rule(one), first)
        self.assertEqual(term_rule(term=other), second)
        self.assertEqual(term_rule(("most", (one, other))), either_marked(first, second))
        self.assertEqual(term_rule(("least", (one, other))), both_marked(first, second))
        self.assertEqual(term_rule(("then", one, other)), behind(first, second))
        self.assertEqual(term_rule(("then", other, one)), behind(second, first))
        self.assertEqual(term_rule(("turned", other)), turned_about(second))
        self.assertEqual(term_rule(("again", other, 3)), power(second, 3))
        self.assertEqual(term_rule(("again", other, 0)), STAY)
        self.assertEqual(term_rule(TWO_TERM), TWO)
        self.assertEqual(term_rule(("turned", TWO_TERM)), TWO)
        self.assertEqual(term_rule(("again", ("at", (0, 1)), 3)), (((0, 3),),))
        self.assertEqual(term_rule(("most", (AT,))), STAY)
        self.assertEqual(term_rule(("most", (AT, TWO_TERM, ("at", (5, 5))))),
                         either_marked(either_marked(STAY, TWO), (((5, 5),),)))
        self.assertEqual(term_rule(("least", (LEFT_TERM, TWO_TERM, ("at", (5, 5))))),
                         both_marked(both_marked(LEFT, TWO), (((5, 5),),)))

    def test_ranks(self):
        for many in range(1, 13):
            for least in range(1, many + 1):
                wanted = tuple(itertools.combinations(TWELVE[:many], least))
                term = ("rank", least, TWELVE[:many])
                if len(wanted) > 60:
                    self.refused(TooGreat(60), term_rule, term)
                else:
                    self.assertEqual(term_rule(term), wanted)
        self.assertEqual(len(term_rule(("rank", 3, TWELVE[:7]))), 35)
        self.assertEqual(len(term_rule(("rank", 3, TWELVE[:8]))), 56)
        self.refused(TooGreat(60), term_rule, ("rank", 2, TWELVE))

    def test_a_rank_turned_about(self):
        for many in range(1, 7):
            for least in range(1, many + 1):
                places = tuple(sorted((k * k - 9, -k) for k in range(many)))
                self.assertEqual(term_rule(("turned", ("rank", least, places))),
                                 term_rule(("rank", many + 1 - least, places)))

    def test_again(self):
        self.assertEqual(term_rule(("again", ("at", (1, 0)), 60)), (((60, 0),),))
        self.refused(TooGreat(60), term_rule, ("again", ("at", (1, 0)), 61))
        self.refused(TooGreat(60), term_rule, ("again", AT, 10 ** 30))
        self.refused(TooGreat(60), term_rule, LONG)
        self.assertEqual(len(term_rule(("again", LEFT_TERM, 59))), 60)
        self.assertEqual(term_rule(("again", ("again", ("again", ("at", (20, -20)), 60), 60), 60)),
                         (((20 * 60 ** 3, -20 * 60 ** 3),),))

    def test_parts_are_made_even_if_they_are_done_0_times(self):
        self.refused(TooGreat(60), term_rule, ("again", LONG, 0))
        self.refused(TooGreat(60), term_rule, ("again", ("again", AT, 61), 0))

    def test_refusals_from_within(self):
        for term in (("most", (AT, LONG)), ("least", (AT, LONG)), ("then", LONG, AT), ("then", AT, LONG),
                     ("turned", LONG), ("turned", ("most", (AT, ("rank", 2, TWELVE)))), ("again", TWO_TERM, 4)):
            self.refused(TooGreat(60), term_rule, term)
        # Many needs that a next part would leave few of are refused all the same.
        pairs = ("least", tuple(("most", (("at", (k, 0)), ("at", (k, 1)))) for k in range(6)))
        self.refused(TooGreat(60), term_rule, pairs)
        self.refused(TooGreat(60), term_rule, ("turned", pairs))

    def test_what_comes_of_parts_may_be_greater_than_parameters(self):
        line = ("again", ("least", (AT, ("at", (1, 0)))), 30)
        self.assertEqual(term_rule(line), (tuple((k, 0) for k in range(31)),))
        self.assertEqual(term_rule(("turned", line)), tuple(((k, 0),) for k in range(31)))
        self.assertEqual(term_rule(("then", ("turned", line), ("at", (20, 20)))), tuple(((k + 20, 20),) for k in range(31)))

    def test_terms_are_checked(self):
        self.refused(BadTerm((0,)), term_rule, ("turned", None))
        self.refused(TooGreat(6), term_rule, ("turned",) * 1 + (("turned", ("turned", ("turned", ("turned", ("turned", AT))))),))
        self.refused(TooGreat(20), term_rule, ("most", (AT,) * 20))
        self.refused(BadTerm((1,)), term_rule, ("then", LONG, None))


class PlainTerm(Case):

    def test_needs_and_places_in_order(self):
        self.assertEqual(plain_term(TWO), ("most", (
            ("least", (("at", (0, 0)), ("at", (0, 1)))), ("least", (("at", (0, 0)), ("at", (1, 0)))),
            ("least", (("at", (0, 1)), ("at", (1, 0)))))))
        self.assertEqual(plain_term(rule=STAY), ("most", (("least", (("at", (0, 0)),)),)))

    def test_there_and_back(self):
        for draw in drawings(100, 40):
            rule = drawn_rule(draw, 4, 3)
            self.assertEqual(term_rule(plain_term(rule)), rule)

    def test_it_may_have_more_parts_than_a_parameter(self):
        self.assertEqual(how_many(plain_term(MANY)), 63)
        self.refused(TooGreat(20), need_term, plain_term(MANY))

    def test_rules_are_checked(self):
        self.refused(BadRule((1,)), plain_term, (((1, 0),), ((0, 0),)))


class Stepped(Case):

    def test_examples(self):
        self.assertEqual(term_stepped(("again", ("at", (0, 1)), 3), ((0, 0), (5, 5))), ((0, -3), (5, 2)))
        self.assertEqual(term_stepped(term=TWO_TERM, island=((0, 0), (1, 0))), ((0, 0),))
        self.assertEqual(term_stepped(LEFT_TERM, ((0, 0),)), ((-1, 0), (0, 0)))
        self.assertEqual(term_stepped(("turned", LEFT_TERM), box(3, 1)), ((0, 0), (1, 0)))
        self.assertEqual(term_stepped(("again", LEFT_TERM, 0), ROW), ROW)
        self.assertEqual(term_stepped(TWO_TERM, ()), ())

    def test_drawn_ones_do_what_their_words_say(self):
        for draw in drawings(250, 41):
            term, island = few(draw, 4, 2, 1), drawn_island(draw, 12, 3)
            found = term_stepped(term, island)
            marks = set(island)
            marked = says(term, lambda x, y, marks=marks: (x, y) in marks)
            grid = [(x, y) for x in range(-5, 6, 2) for y in range(-5, 6, 2)]
            for x, y in grid:
                self.assertEqual((x, y) in found, marked(x, y), (term, island))
            self.assertEqual(found, tuple(sorted(set(found))))

    def test_drawn_ones_do_what_their_rules_do(self):
        done = 0
        for draw in drawings(300, 42):
            term, island = few(draw, 4, 3, 2), drawn_island(draw, 15, 3)
            rule, found = outcome(term_rule, term), outcome(term_stepped, term, island)
            if rule != REFUSED and found != (TooGreat, {"most": 400}):
                done += 1
                self.assertEqual(set(found), step(rule, set(island)), (term, island))
        self.assertGreater(done, 150)

    def test_turned_within_turned_with_each_word_in_it(self):
        one, other = ("most", (AT, ("at", (1, 0)))), ("least", (AT, ("at", (0, 1))))
        terms = [("most", (one, other)), ("least", (one, other)), ("then", one, other), ("again", one, 3),
                 ("rank", 3, ((0, 0), (0, 1), (1, 0), (2, 2))), ("turned", ("then", other, one))]
        for draw in drawings(20, 43):
            marks = drawn_island(draw, 30, 3)
            for term in terms:
                wanted = tuple(sorted(step(term_rule(term), set(marks))))
                about = tuple(sorted(step(turned_about(term_rule(term)), set(marks))))
                self.assertEqual(term_stepped(term, marks), wanted)
                self.assertEqual(term_stepped(("turned", term), marks), about)
                self.assertEqual(term_stepped(("turned", ("turned", term)), marks), wanted)
                self.assertEqual(term_stepped(("then", AT, ("turned", term)), marks), about)

    def test_it_makes_no_rule(self):
        self.assertEqual(term_stepped(("rank", 6, TWELVE), box(12, 1)), tuple((k, 0) for k in range(-6, 7)))
        self.assertEqual(len(term_stepped(LONG, ((0, 0),))), 61)
        self.assertEqual(term_stepped(("again", TWO_TERM, 60), box(19, 20)), ())

    def test_again_within_again(self):
        term = ("at", (-2, 1))
        for _ in range(5):
            term = ("again", term, 60)
        far = 60 ** 5
        self.assertEqual(term_stepped(term, ((1, 7), (3, 4))), ((1 + 2 * far, 7 - far), (3 + 2 * far, 4 - far)))
        self.assertEqual(term_stepped(term, ()), ())
        self.assertEqual(term_stepped(("again", ("again", TWO_TERM, 2), 3), box(7, 7)),
                         term_stepped(("again", TWO_TERM, 6), box(7, 7)))

    def test_again_of_what_moves_at_first_as_a_whole_and_then_does_not(self):
        # Pairs go down, triples grow to the right: whatever the first steps are, all are done.
        term = ("most", (("least", (("at", (0, 1)), ("at", (1, 1)))), ("least", (("at", (-1, 1)), ("at", (0, 1))))))
        island = ((0, 0), (1, 0), (7, 7))
        wanted = set(island)
        for times in range(6):
            self.assertEqual(set(term_stepped(("again", term, times), island)), wanted)
            wanted = step(term_rule(term), wanted)

    def test_60_times_are_let(self):
        self.assertEqual(term_stepped(("again", ("at", (1, 0)), 60), ((0, 0),)), ((-60, 0),))
        for times in (61, 10 ** 30):
            self.refused(TooGreat(60), term_stepped, ("again", AT, times), ())
            self.refused(TooGreat(60), term_stepped, ("again", ("turned", ("again", AT, times)), 0), ((0, 0),))
        # Ahead of all work: the first part has more than 400 places.
        self.refused(TooGreat(60), term_stepped, ("then", LEFT_TERM, ("again", AT, 61)), ROW)
        self.refused(TooGreat(60), term_stepped, ("most", (LEFT_TERM, ("least", (("again", AT, 61),)))), ROW)

    def test_400_places_of_a_part(self):
        grow, shrink = LEFT_TERM, ("least", (AT, ("at", (1, 0))))
        self.assertEqual(len(term_stepped(grow, ROW[:399])), 400)
        for term in (grow, ("then", grow, shrink), ("least", (grow, AT)), ("least", (AT, grow)), ("turned", shrink),
                     ("turned", ("then", shrink, grow)), ("again", grow, 1), ("turned", ("most", (AT, shrink))),
                     ("rank", 1, ((0, 0), (1, 0))), ("turned", ("rank", 2, ((0, 0), (1, 0))))):
            self.refused(TooGreat(400), term_stepped, term, ROW)
        for term in (("then", shrink, grow), ("turned", ("then", grow, shrink)), ("turned", ("least", (AT, ("at", (0, 0))))),
                     ("turned", ("most", (AT, ("at", (5, 5))))), ("rank", 2, ((0, 0), (1, 0))), ("again", grow, 0)):
            self.assertLessEqual(len(term_stepped(term, ROW)), 400)

    def test_400_places_of_the_parts_so_far(self):
        apart = ("most", (AT, ("at", (0, 1))))
        self.assertEqual(len(term_stepped(apart, ROW[:200])), 400)
        self.refused(TooGreat(400), term_stepped, apart, ROW[:201])
        self.assertEqual(term_stepped(("least", (AT, ("at", (0, 1)))), ROW), ())
        self.assertEqual(len(term_stepped(("turned", ("least", (AT, ("at", (0, 1))))), ROW[:200])), 400)
        self.refused(TooGreat(400), term_stepped, ("turned", ("least", (AT, ("at", (0, 1))))), ROW[:201])
        self.assertEqual(term_stepped(("turned", apart), ROW), ())

    def test_400_places_of_a_step_of_an_again(self):
        split = ("most", (("least", (("at", (0, -9)), ("at", (1, -9)))), ("least", (("at", (0, 9)), ("at", (1, 9))))))
        island = tuple((100 * k + j, 0) for k in range(133) for j in range(3))
        self.assertEqual(len(step(term_rule(("again", split, 2)), set(island))), 399)
        self.refused(TooGreat(400), term_stepped, ("again", split, 2), island)
        self.refused(TooGreat(400), term_stepped, ("again", split, 1), island)
        self.assertEqual(len(term_stepped(("again", split, 2), island[:300])), 300)
        about = ("again", ("least", (("most", (("at", (0, -9)), ("at", (1, -9)))), ("most", (("at", (0, 9)), ("at", (1, 9)))))), 2)
        self.refused(TooGreat(400), term_stepped, ("turned", about), island)

    def test_parameters(self):
        self.refused(BadTerm(()), term_stepped, None, None)
        self.refused(BadIsland(((1, 0), (0, 0))), term_stepped, ("again", AT, 61), ((1, 0), (0, 0)))
        far = ((-10 ** 9, 0), (10 ** 9, 0))
        self.assertEqual(term_stepped(("at", (20, -20)), far), shifted(far, (-20, 20)))


class Alike(Case):

    def test_alike(self):
        self.assertIs(terms_alike(TWO_TERM, plain_term(TWO)), True)
        self.assertIs(terms_alike(one=TWO_TERM, other=LEFT_TERM), False)
        self.assertIs(terms_alike(("turned", ("turned", LEFT_TERM)), LEFT_TERM), True)
        self.assertIs(terms_alike(("again", LEFT_TERM, 59), ("again", LEFT_TERM, 58)), False)
        self.refused(NoRow(), terms_parted, TWO_TERM, ("turned", TWO_TERM))

    def test_parted(self):
        self.assertEqual(terms_parted(TWO_TERM, LEFT_TERM), ((0, 0),))
        self.assertEqual(terms_parted(one=AT, other=LEFT_TERM), ((1, 0),))
        self.assertEqual(terms_parted(LEFT_TERM, AT), ((1, 0),))
        line = ("again", ("least", (AT, ("at", (1, 0)))), 20)
        self.assertEqual(terms_parted(line, ("then", line, ("at", (1, 0)))), tuple((k, 0) for k in range(21)))

    def test_drawn_ones(self):
        alike = 0
        for draw in drawings(200, 44):
            one, other = few(draw, 2, 2, 1), few(draw, 2, 2, 1)
            first, second = outcome(term_rule, one), outcome(term_rule, other)
            if REFUSED in (first, second):
                continue
            self.assertIs(terms_alike(one, other), first == second)
            if first == second:
                alike += 1
                self.refused(NoRow(), terms_parted, one, other)
                continue
            island = terms_parted(one, other)
            apart = [n for n in first if not any(set(m) <= set(n) for m in second)]
            apart += [n for n in second if not any(set(m) <= set(n) for m in first)]
            self.assertEqual(island, min(apart))
            self.assertNotEqual((0, 0) in term_stepped(one, island), (0, 0) in term_stepped(other, island))
        self.assertGreater(alike, 3)

    def test_the_errors_of_one_come_ahead_of_those_of_other(self):
        for call in (terms_alike, terms_parted):
            self.refused(BadTerm((0,)), call, ("turned", None), ("then", AT, None))
            self.refused(BadTerm((1,)), call, AT, ("then", AT, None))
            self.refused(TooGreat(20), call, ("most", (AT,) * 20), None)
            self.refused(TooGreat(60), call, LONG, AT)
            self.refused(TooGreat(60), call, AT, LONG)
            self.refused(TooGreat(60), call, LONG, LONG)
            self.refused(TooGreat(60), call, LONG, None)
            self.refused(BadTerm(()), call, None, LONG)

    def test_facts(self):
        for draw in drawings(80, 45):
            a, b, c = [few(draw, 2, 2, 1) for _ in range(3)]
            n, m = draw.randint(0, 2), draw.randint(0, 2)
            for one, other in (
                    (("most", (a, b, c)), ("most", (c, ("most", (b, a))))),
                    (("least", (a, b, c)), ("least", (("least", (c, a)), b))),
                    (("least", (a, ("most", (b, c)))), ("most", (("least", (a, b)), ("least", (a, c))))),
                    (("most", (a, ("least", (b, c)))), ("least", (("most", (a, b)), ("most", (a, c))))),
                    (("then", a, ("most", (b, c))), ("most", (("then", a, b), ("then", a, c)))),
                    (("then", a, ("least", (b, c))), ("least", (("then", a, b), ("then", a, c)))),
                    (("turned", ("most", (a, b))), ("least", (("turned", a), ("turned", b)))),
                    (("turned", ("then", a, b)), ("then", ("turned", a), ("turned", b))),
                    (("turned", ("turned", a)), a),
                    (("then", ("again", a, n), ("again", a, m)), ("again", a, n + m))):
                if how_many(one) <= 20 and how_many(other) <= 20:
                    self.assertIn(outcome(terms_alike, one, other), (True, REFUSED))

    def test_either_and_then_need_not_be_then_and_either(self):
        a, b, c = AT, ("at", (1, 0)), ("least", (AT, ("at", (5, 5))))
        one = ("then", ("most", (a, b)), c)
        other = ("most", (("then", a, c), ("then", b, c)))
        self.assertIs(terms_alike(one, other), False)
        self.assertEqual(terms_parted(one, other), ((0, 0), (6, 5)))


class Rules(Case):

    def test_plain_terms_step_as_rules(self):
        for draw in drawings(100, 46):
            rule, island = drawn_rule(draw), drawn_island(draw)
            self.assertEqual(term_stepped(plain_term(rule), island), stepped(rule, island))
            self.assertEqual(need_rule(term_rule(plain_term(rule))), rule)


if __name__ == "__main__":
    unittest.main()
