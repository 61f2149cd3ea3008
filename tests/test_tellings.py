"""[51] One rule in four tellings."""

import itertools
import unittest

from allislands.bars import bars, turned_about
from allislands.errors import BadParameter, BadRule, TooGreat
from allislands.rules import need_rule, power
from allislands.tellings import TELLINGS, is_telling, retold, telling_of, telling_rule
from allislands.terms import need_term
from allislands.termwork import plain_term, term_rule
from tests.tools import (FOUR, LEFT, MANY, MANY_UP, ODD, SQUARE, STAY, TWO, TWO_OF_FOUR, Case, drawings, drawn_places,
                         drawn_rule,
                         drawn_term, least, outcome, step)

PLACES = ((0, 0), (0, 1), (1, 0))
TABLE = (PLACES, (0, 0, 0, 1, 0, 1, 1, 1))
SIX = tuple((k, 0) for k in range(6))
RANK = ("rank", 2, PLACES)
# The first 6 needs alone have 3 ** 6 bars.
BARRED = tuple(tuple((3 * k + j, k) for j in range(3)) for k in range(6))
DEEP = ("turned",) * 1 + (("turned", ("turned", ("turned", ("turned", ("turned", ("at", (0, 0))))))),)
BROAD = ("most", tuple(("at", (k, 0)) for k in range(20)))
NO_TABLES = ODD + (
    TABLE + (1,), TABLE[:1], list(TABLE), (list(PLACES), TABLE[1]), (PLACES, list(TABLE[1])), ((), (0, 1)), ((), ()),
    ((), (0,)), ((), (1,)), (PLACES[::-1], TABLE[1]), (PLACES[:1] * 2, (0, 0, 0, 1)), (((21, 0),), (0, 1)),
    (((0, -21),), (0, 1)), (((0, True),), (0, 1)), (((0, 0),), (0, 1, 1)), (((0, 0),), (0,)), (((0, 0),), ()),
    (((0, 0),), (False, True)), (((0, 0),), (0, True)), (((0, 0),), (0, 2)), (((0, 0),), (-1, 1)),
    (((0, 0),), (0, 1.0)),
    (PLACES, (0, -1, 0, 1, 0, 1, 1, 1)), (PLACES, (0, 0, 0, 1, 0, 1, 2, 1)), (PLACES, (0, 0, 0, 1, 0, True, 1, 1)),
    # The first bit, the last one.
    (((0, 0),), (1, 1)), (((0, 0),), (0, 0)), (((0, 0),), (1, 0)), (PLACES, (1,) + TABLE[1][1:]),
    (PLACES, TABLE[1][:-1] + (0,)),
    # Bits that fall where a place comes.
    (PLACES, (0, 1, 0, 0, 0, 1, 1, 1)), (PLACES, (0, 0, 0, 1, 1, 0, 1, 1)), (PLACES, (0, 1, 1, 0, 1, 1, 1, 1)),
    # Places that do not matter.
    (PLACES, (0, 1, 0, 1, 0, 1, 0, 1)), (PLACES, (0, 0, 1, 1, 0, 0, 1, 1)), (PLACES, (0, 0, 0, 0, 1, 1, 1, 1)),
    (PLACES, (0, 0, 0, 1, 0, 0, 0, 1)), (((0, 0), (1, 0)), (0, 1, 0, 1)), (((0, 0), (1, 0)), (0, 0, 1, 1)),
    (SIX + ((6, 0),), (0,) * 127 + (1,)), (((0, 0), None), (0, 0, 0, 1)))


def plain_table(rule):
    """The table of a rule: each set of its places is stepped."""
    places = tuple(sorted({place for need in rule for place in need}))
    sets = [{place for k, place in enumerate(places) if mask >> k & 1} for mask in range(2 ** len(places))]
    return (places, tuple(int((0, 0) in step(rule, marks)) for marks in sets))


def drawn_narrow(draw, many=6):
    """A rule whose needs have at most so many places together."""
    places = drawn_places(draw, 1, many, 2)
    return least([tuple(sorted(draw.sample(places, draw.randint(1, len(places))))) for _ in range(draw.randint(1, 6))])


class Words(Case):

    def test_the_four(self):
        self.assertEqual(TELLINGS, ("needs", "bars", "term", "table"))
        for word in TELLINGS:
            self.assertIs(is_telling(telling=word, value=None), False)
            telling_of(rule=TWO, telling=word)

    def test_others(self):
        for word in ODD + ("need", "NEEDS", "needs ", "tables", "rule", ("needs",), ["needs"], b"needs"):
            self.refused(BadParameter(word), is_telling, word, None)
            self.refused(BadParameter(word), telling_rule, word, None)
            self.refused(BadParameter(word), telling_of, TWO, word)
            self.refused(BadParameter(word), retold, word, None, None)
            self.refused(BadParameter(word), retold, "needs", TWO, word)
        self.refused(BadRule(()), telling_of, None, None)
        self.refused(BadRule((1,)), telling_of, (((1, 0),), ((0, 0),)), "needs")


class Values(Case):

    def test_needs_and_bars(self):
        for telling in ("needs", "bars"):
            for value in (TWO, LEFT, STAY, SQUARE, TWO_OF_FOUR, MANY, BARRED):
                self.assertIs(is_telling(telling, value), True)
            for value in ODD + ((), TWO[::-1], TWO + (((0, 0),),), list(TWO), (((0, 0),), ((0, 0), (1, 0))),
                                MANY + MANY_UP,
                                (((21, 0),),), (tuple((k, 0) for k in range(13)),), ((),), TABLE, RANK):
                self.assertIs(is_telling(telling, value), False, value)
                self.refused(BadParameter(value), telling_rule, telling, value)
                self.refused(BadParameter(value), retold, telling, value, None)

    def test_terms(self):
        for value in (RANK, BROAD[:1] + (BROAD[1][:19],), ("again", ("at", (0, 0)), 10 ** 30), DEEP[1],
                      ("least", (RANK, ) * 2)):
            self.assertIs(is_telling("term", value), True, value)
        for value in ODD + (DEEP, BROAD, ("at", (21, 0)), ("most", ()), ("rank", 4, PLACES), ("rank", True, PLACES),
                            TWO,
                            ("again", ("at", (0, 0)), 10 ** 30 + 1), ["at", (0, 0)], ("turned", ("at",)), TABLE):
            self.assertIs(is_telling("term", value), False, value)
            self.refused(BadParameter(value), telling_rule, "term", value)
            self.refused(BadParameter(value), retold, "term", value, None)
        # Its rule may have too many needs.
        many = ("most", (plain_term(MANY[:9]), plain_term(MANY[:3])))
        self.assertIs(is_telling("term", many), False)
        many = ("again", ("rank", 1, PLACES), 60)
        self.assertIs(is_telling("term", many), True)
        self.refused(TooGreat(60), telling_rule, "term", many)

    def test_tables(self):
        for value in (TABLE, (((0, 0),), (0, 1)), (((20, -20),), (0, 1)), (PLACES, (0, 1, 1, 1, 1, 1, 1, 1)),
                      (SIX, (0,) + (1,) * 63), (SIX, (0,) * 63 + (1,)), (PLACES[:2], (0, 1, 1, 1))):
            self.assertIs(is_telling("table", value), True, value)
        for value in NO_TABLES:
            self.assertIs(is_telling("table", value), False, value)
            self.refused(BadParameter(value), telling_rule, "table", value)
            self.refused(BadParameter(value), retold, "table", value, None)

    def test_all_tables_of_few_places(self):
        for many in (1, 2, 3):
            places, found = SIX[:many], 0
            for bits in itertools.product((0, 1), repeat=2 ** many):
                sets = range(2 ** many)
                rises = all(bits[m] <= bits[n] for m in sets for n in sets if m & n == m)
                matter = all(any(bits[m] != bits[m | 1 << k] for m in sets) for k in range(many))
                good = bits[0] == 0 and bits[-1] == 1 and rises and matter
                found += good
                self.assertIs(is_telling("table", (places, bits)), good)
                if good:
                    self.assertEqual(plain_table(telling_rule("table", (places, bits))), (places, bits))
            self.assertEqual(found, (1, 2, 9)[many - 1])


class Retold(Case):

    def test_examples(self):
        self.assertEqual(telling_of(TWO, "table"), TABLE)
        self.assertEqual(telling_of(LEFT, "table"), (((0, 0), (1, 0)), (0, 1, 1, 1)))
        self.assertEqual(telling_of(TWO, "bars"), TWO)
        self.assertEqual(telling_of(LEFT, "bars"), (((0, 0), (1, 0)),))
        self.assertEqual(telling_of(TWO, "needs"), TWO)
        self.assertEqual(telling_of(LEFT, "term"), plain_term(LEFT))
        self.assertEqual(telling_rule(telling="table", value=TABLE), TWO)
        self.assertEqual(telling_rule("term", RANK), TWO)
        self.assertEqual(telling_rule("bars", (((0, 0), (1, 0)),)), LEFT)
        self.assertEqual(retold("term", RANK, "table"), TABLE)
        self.assertEqual(retold(telling="table", value=TABLE, into="term"), plain_term(TWO))

    def test_each_to_each_and_back(self):
        for draw in drawings(60, 510):
            rule = drawn_narrow(draw)
            values = {word: telling_of(rule, word) for word in TELLINGS}
            self.assertEqual(values["needs"], rule)
            self.assertEqual(values["bars"], bars(rule))
            self.assertEqual(values["term"], plain_term(rule))
            self.assertEqual(values["table"], plain_table(rule))
            for word, into in itertools.product(TELLINGS, repeat=2):
                if word == "term" and outcome(need_term, values["term"]) != values["term"]:
                    continue
                self.assertIs(is_telling(word, values[word]), True)
                self.assertEqual(telling_rule(word, values[word]), rule)
                self.assertEqual(retold(word, values[word], into), values[into])

    def test_terms(self):
        done = 0
        for draw in drawings(120, 511):
            term = drawn_term(draw)
            rule = outcome(term_rule, term)
            if outcome(need_term, term) != term:
                self.refused(BadParameter(term), telling_rule, "term", term)
                continue
            self.assertEqual(outcome(telling_rule, "term", term), rule)
            if outcome(need_rule, rule) == rule:
                done += 1
                for into in TELLINGS:
                    self.assertEqual(outcome(retold, "term", term, into), outcome(telling_of, rule, into))
        self.assertGreater(done, 40)

    def test_plain_terms_with_more_parts_than_parameters(self):
        made = telling_of(TWO_OF_FOUR + (((5, 5),),), "term")
        self.assertEqual(made, plain_term(TWO_OF_FOUR + (((5, 5),),)))
        self.refused(TooGreat(20), need_term, made)
        self.assertIs(is_telling("term", made), False)
        self.refused(BadParameter(made), telling_rule, "term", made)

    def test_six_and_seven_places(self):
        for many in range(1, 7):
            value = (SIX[:many], (0,) * (2 ** many - 1) + (1,))
            self.assertEqual(telling_of((SIX[:many],), "table"), value)
            self.assertEqual(telling_rule("table", value), (SIX[:many],))
        seven = (SIX, ((6, 0),))
        self.refused(TooGreat(6), telling_of, seven, "table")
        self.refused(TooGreat(6), retold, "needs", seven, "table")
        self.refused(TooGreat(6), retold, "bars", seven, "table")
        self.assertEqual(len(telling_of(seven, "bars")), 6)

    def test_more_than_60(self):
        self.refused(TooGreat(60), telling_of, BARRED, "bars")
        self.refused(TooGreat(60), telling_rule, "bars", BARRED)
        for into in TELLINGS:
            self.refused(TooGreat(60), retold, "bars", BARRED, into)
        self.refused(TooGreat(60), retold, "needs", BARRED, "bars")
        self.assertEqual(retold("needs", BARRED, "needs"), BARRED)
        # The rule of the value comes first, then what it is told as.
        again = ("again", ("rank", 1, PLACES), 60)
        for into in TELLINGS:
            self.refused(TooGreat(60), retold, "term", again, into)
        self.refused(BadParameter("words"), retold, "term", again, "words")
        self.refused(BadParameter("words"), retold, "bars", BARRED, "words")
        self.refused(BadParameter(None), retold, "bars", None, "words")

    def test_rules_beyond_parameters_are_retold(self):
        term = ("again", ("at", (20, 0)), 3)
        self.assertEqual(retold("term", term, "needs"), (((60, 0),),))
        self.assertEqual(retold("term", term, "bars"), (((60, 0),),))
        self.assertEqual(retold("term", term, "term"), plain_words((((60, 0),),)))
        self.assertEqual(retold("term", term, "table"), (((60, 0),), (0, 1)))
        thirteen = ("least", (("rank", 12, tuple((k, 0) for k in range(12))), ("at", (12, 0))))
        self.assertEqual(retold("term", thirteen, "needs"), (tuple((k, 0) for k in range(13)),))
        self.assertEqual(retold("bars", tuple(((k, 0),) for k in range(13)), "needs"),
                         (tuple((k, 0) for k in range(13)),))
        self.assertEqual(power((((20, 0),),), 3), (((60, 0),),))

    def test_facts(self):
        tables = {}
        for draw in drawings(80, 512):
            rule = drawn_narrow(draw, 4)
            places, bits = telling_of(rule, "table")
            self.assertEqual(tables.setdefault((places, bits), rule), rule)
            # Of the table turned about each bit is 1 less that of the set of the other places.
            self.assertEqual(telling_of(turned_about(rule), "table"), (places, tuple(1 - bit for bit in bits[::-1])))
        for rule in (FOUR, SQUARE, STAY):
            self.assertEqual(retold("bars", bars(rule), "needs"), rule)
        for draw in drawings(40, 513):
            rule = drawn_rule(draw, 3, 3, 3)
            self.assertEqual(retold("bars", retold("needs", rule, "bars"), "needs"), rule)


def plain_words(needs):
    return ("most", tuple(("least", tuple(("at", place) for place in need)) for need in needs))


if __name__ == "__main__":
    unittest.main()
