"""[14], [16] Terms as values, and the named ones."""

import unittest

from allislands.errors import BadTerm, NoRow, TooGreat
from allislands.terms import closed, eaten, grown, middle, need_term, opened
from allislands.termwork import term_rule, term_stepped, terms_alike
from tests.tools import ODD, TWO, Case, drawings, drawn_island, drawn_places, drawn_term, how_many

AT = ("at", (0, 0))
TWELVE = tuple((k, 0) for k in range(12))
THREE = ((0, 0), (0, 1), (1, 0))
MOST_AGAIN = 10 ** 30
BAD_PLACES = ODD + ((), TWELVE + ((12, 0),), ((21, 0),), ((0, -21),), ((1, 0), (0, 0)), ((0, 0), (0, 0)),
                    [(0, 0)], ((0, 0), None), ((0, 0, 0),), ((True, 0),))
BAD = ODD + ((), ("at",), ("at", (0, 0), 1), ("at", (21, 0)), ("at", (0, -21)), ("at", [0, 0]), ("at", (0, 0, 0)),
             ("at", (True, 0)), ("at", None), ["at", (0, 0)], ("At", (0, 0)), (b"at", (0, 0)), (None, (0, 0)),
             ("most",), ("most", ()), ("most", [AT]), ("most", AT, AT), ("most", (AT,) * 61), ("most", None),
             ("least",), ("least", ()), ("least", [AT]), ("least", (AT,) * 61), ("least", (AT,), (AT,)),
             ("then", AT), ("then", AT, AT, AT), ("then", (AT, AT)), ("turned",), ("turned", AT, AT),
             ("again", AT), ("again", AT, -1), ("again", AT, MOST_AGAIN + 1), ("again", AT, True),
             ("again", AT, 1.0), ("again", AT, None), ("again", 2, AT), ("again", AT, 1, 1),
             ("rank", 1), ("rank", 0, ((0, 0),)), ("rank", 2, ((0, 0),)), ("rank", 13, TWELVE), ("rank", True, THREE),
             ("rank", -1, THREE), ("rank", 1.0, THREE), ("rank", 1, [(0, 0)]), ("rank", 1, ()), ("rank", THREE, 1),
             ("rank", 1, THREE, 1), ("some", (AT,)), ("", AT), ((), AT), ([], AT), ({}, AT))


def deep(many, inside=AT):
    """A term that is `inside`, so many words deep within others."""
    for _ in range(many):
        inside = ("turned", inside)
    return inside


class NeedTerm(Case):

    def test_every_word(self):
        for term in (AT, ("at", (-20, 20)), ("most", (AT,)), ("least", (AT, ("at", (20, -20)))),
                     ("then", AT, ("turned", AT)), ("again", AT, 0), ("again", AT, MOST_AGAIN), ("rank", 1, ((0, 0),)),
                     ("rank", 12, TWELVE), ("rank", 2, THREE), ("rank", 1, ((-20, 20), (20, -20)))):
            self.assertEqual(need_term(term), term)
            self.assertEqual(need_term(term=term), term)

    def test_drawn_ones(self):
        let = 0
        for draw in drawings(200, 30):
            term = drawn_term(draw, 6)
            if how_many(term) <= 20:
                let += 1
                self.assertEqual(need_term(term), term)
            else:
                self.refused(TooGreat(20), need_term, term)
        self.assertTrue(40 < let < 190, let)

    def test_what_is_no_term(self):
        for bad in BAD:
            self.refused(BadTerm(()), need_term, bad)

    def test_the_path_to_what_is_no_term(self):
        for bad in BAD:
            for term, path in ((("most", (bad,)), (0,)), (("least", (AT, AT, bad, None)), (2,)),
                               (("then", bad, None), (0,)), (("then", AT, bad), (1,)), (("turned", bad), (0,)),
                               (("again", bad, 5), (0,)),
                               (("then", ("most", (AT, ("least", (AT, AT)))), ("turned", ("then", AT, bad))), (1, 0, 1)),
                               (("most", (("then", AT, ("turned", bad)), None)), (0, 1, 0))):
                self.refused(BadTerm(path), need_term, term)

    def test_a_term_comes_ahead_of_its_parts(self):
        self.refused(BadTerm(()), need_term, ("again", None, -1))
        self.refused(BadTerm((1,)), need_term, ("then", AT, ("again", None, -1)))

    def test_each_part_is_walked_whole_ahead_of_the_next(self):
        self.refused(BadTerm((0, 0, 0)), need_term, ("then", ("turned", ("turned", None)), None))
        self.refused(BadTerm((0, 1)), need_term, ("most", (("then", AT, 5), 5)))

    def test_depth(self):
        self.assertEqual(need_term(deep(5)), deep(5))
        self.refused(TooGreat(6), need_term, deep(6))
        self.refused(TooGreat(6), need_term, deep(6, None))
        self.refused(BadTerm((0,) * 5), need_term, deep(5, None))
        self.refused(TooGreat(6), need_term, deep(9000))
        self.refused(TooGreat(6), need_term, ("then", deep(5), None))
        self.refused(BadTerm((1,)), need_term, ("then", deep(4), None))
        self.refused(TooGreat(6), need_term, ("most", (deep(4), deep(5))))
        self.refused(BadTerm((0,)), need_term, ("most", (None, deep(5))))
        within = ("rank", 1, ((0, 0),))
        self.assertEqual(need_term(deep(5, within)), deep(5, within))

    def test_twenty_terms(self):
        nineteen = ("most", (AT,) * 19)
        self.assertEqual(need_term(nineteen), nineteen)
        self.refused(TooGreat(20), need_term, ("most", (AT,) * 20))
        self.refused(TooGreat(20), need_term, ("least", (AT,) * 60))
        self.refused(TooGreat(20), need_term, ("most", (AT,) * 19 + (None,)))
        self.refused(BadTerm((18,)), need_term, ("most", (AT,) * 18 + (None, None)))
        self.refused(TooGreat(20), need_term, ("then", ("most", (AT,) * 9), ("least", (AT,) * 9)))
        self.assertTrue(need_term(("then", ("most", (AT,) * 9), ("least", (AT,) * 8))))
        # Counted as they are walked: what lies deeper counts ahead of what stands beside.
        self.refused(TooGreat(20), need_term, ("then", ("most", (AT,) * 18), AT))
        self.refused(BadTerm((1,)), need_term, ("then", ("most", (AT,) * 17), None))

    def test_which_comes_first(self):
        self.refused(TooGreat(6), need_term, ("most", (AT,) * 14 + (deep(5),)))
        self.refused(TooGreat(20), need_term, ("most", (AT,) * 15 + (deep(5),)))
        # The 21st lies too deep as well: depth is asked first.
        self.refused(TooGreat(6), need_term, ("then", ("most", (AT,) * 13), deep(5, None)))
        self.refused(TooGreat(6), need_term, ("most", (deep(4, ("most", (("most", (AT,)),))),)))
        self.refused(BadTerm((0,)), need_term, ("most", (None,) + (AT,) * 20))

    def test_numbers_of_parts_are_not_asked_of_numbers(self):
        self.refused(BadTerm((0,)), need_term, ("again", 3, 3))
        self.refused(BadTerm(()), need_term, ("most", (AT,) * 61))
        self.refused(BadTerm(()), need_term, ("most", (None,) * 61))


class Named(Case):

    def test_just_the_terms_that_are_told(self):
        ats = tuple(("at", place) for place in THREE)
        self.assertEqual(grown(THREE), ("most", ats))
        self.assertEqual(eaten(THREE), ("least", ats))
        self.assertEqual(middle(THREE), ("rank", 2, THREE))
        about = (("at", (-1, 0)), ("at", (0, -1)), ("at", (0, 0)))
        self.assertEqual(opened(THREE), ("then", ("least", ats), ("most", about)))
        self.assertEqual(closed(THREE), ("then", ("most", ats), ("least", about)))
        self.assertEqual(grown(places=((2, 3),)), ("most", (("at", (2, 3)),)))
        self.assertEqual(eaten(places=((2, 3),)), ("least", (("at", (2, 3)),)))
        self.assertEqual(middle(places=((2, 3),)), ("rank", 1, ((2, 3),)))
        self.assertEqual(opened(places=((2, 3),))[2], ("most", (("at", (-2, -3)),)))
        self.assertEqual(closed(places=((2, 3),))[2], ("least", (("at", (-2, -3)),)))

    def test_middle(self):
        for many in range(1, 13):
            if many % 2:
                self.assertEqual(middle(TWELVE[:many]), ("rank", many // 2 + 1, TWELVE[:many]))
            else:
                self.refused(NoRow(), middle, TWELVE[:many])

    def test_what_is_refused(self):
        for call in (grown, eaten, middle, opened, closed):
            for bad in BAD_PLACES:
                self.refused(BadTerm(()), call, bad)

    def test_twelve_places(self):
        far = TWELVE[:11] + ((20, -20),)
        self.assertEqual(need_term(grown(far)), grown(far))
        self.assertEqual(opened(far)[2][1][0], ("at", (-20, 20)))

    def test_the_example(self):
        self.assertEqual(term_rule(opened(((0, 0), (1, 0)))), (((-1, 0), (0, 0)), ((0, 0), (1, 0))))
        self.assertEqual(term_rule(middle(THREE)), TWO)

    def test_facts(self):
        for draw in drawings(60, 31):
            places = drawn_places(draw, 1, 3, 2)
            self.assertIs(terms_alike(eaten(places), ("turned", grown(places))), True)
            self.assertIs(terms_alike(opened(places), ("turned", closed(places))), True)
            island = drawn_island(draw, 40, 4)
            self.assertLessEqual(set(term_stepped(opened(places), island)), set(island))
            self.assertLessEqual(set(island), set(term_stepped(closed(places), island)))
            for call in (opened, closed):
                once = term_stepped(call(places), island)
                self.assertEqual(term_stepped(call(places), once), once)


if __name__ == "__main__":
    unittest.main()
