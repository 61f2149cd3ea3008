"""[55] Pages."""

import unittest

from allislands.cores import is_empty
from allislands.errors import BadDirection, BadIsland, BadParameter, BadRule, BadTerm, BadText, TooGreat
from allislands.fans import never_faster
from allislands.forall import covers_all
from allislands.page import Page
from allislands.rules import is_lesser, stepped_times
from allislands.speeds import speed
from allislands.staying import is_staying
from allislands.termwork import term_rule
from allislands.texts import island_text, rule_text, term_text
from tests.tools import (FAN_61, FAR, FOUR, LEFT, ODD, SQUARE, STAY, TWO, TWO_OF_FOUR, Case, drawings, drawn_island,
                         drawn_rule, drawn_term, outcome)

RANK = ("rank", 2, ((0, 0), (0, 1), (1, 0)))
PAIR = ((0, 0), (1, 0))
ALL = tuple(((x, y),) for x in (-1, 0, 1) for y in (-1, 0, 1))
RULES = {"TWO": TWO, "LEFT": LEFT, "STAY": STAY, "FOUR": FOUR, "SQUARE": SQUARE, "ALL": ALL, "L2": LEFT}
TERMS = {"T": RANK, "U": ("at", (0, 0))}
ISLANDS = {"A": PAIR, "B": ((0, 0),), "NONE": ()}
HEAD = "\n".join([f"rule {name} is {rule_text(rule)}" for name, rule in RULES.items()]
                 + [f"term {name} is {term_text(term)}" for name, term in TERMS.items()]
                 + [f"island {name} is {island_text(island)}" for name, island in ISLANDS.items()]) + "\n"
LINES = 12
SAYINGS = (
    ("TWO dies", True), ("LEFT dies", False), ("STAY dies", False),
    ("LEFT stays", True), ("SQUARE stays", True), ("TWO stays", False), ("FOUR stays", False),
    ("ALL covers", True), ("FOUR covers", True), ("LEFT covers", False), ("STAY covers", False), ("TWO covers", False),
    ("LEFT like L2", True), ("LEFT like LEFT", True), ("TWO like LEFT", False),
    ("STAY lesser LEFT", True), ("LEFT lesser STAY", False), ("LEFT lesser L2", True), ("TWO lesser ALL", True),
    ("LEFT faster STAY", True), ("STAY faster LEFT", False), ("LEFT faster L2", False), ("LEFT faster FOUR", False),
    ("TWO speeds ( 1 1 ) -1", True), ("TWO speeds ( 1 1 ) 1", False), ("LEFT speeds ( -3 0 ) 3", True),
    ("LEFT speeds ( 5 0 ) 0", True), ("LEFT speeds ( -3 0 ) 1" + 60 * "0", False),
    ("TWO leads A to B in 1", True), ("TWO leads A to NONE in 1", False), ("TWO leads A to NONE in 2", True),
    ("TWO leads A to NONE in 60", True), ("STAY leads A to A in 60", True), ("LEFT leads B to A in 1", False),
    ("T makes TWO", True), ("T makes LEFT", False), ("U makes STAY", True),
    ("B grows A", True), ("A grows B", False), ("NONE grows B", True), ("A grows A", True))
KINDS = ("rule", "term", "island")


def page(*lines):
    return Page(HEAD + "\n".join(lines))


class Sayings(Case):

    def test_each_said_and_denied(self):
        for saying, truth in SAYINGS:
            self.assertEqual(page("say " + saying).rows, ((LINES, truth),), saying)
            self.assertEqual(page("deny " + saying).rows, ((LINES, not truth),), saying)
        lines = [f"say {saying}" for saying, truth in SAYINGS]
        self.assertEqual(page(*lines).rows, tuple((LINES + k, truth) for k, (saying, truth) in enumerate(SAYINGS)))

    def test_against_the_parts(self):
        for draw in drawings(60, 550):
            one, other, u = drawn_rule(draw, 3, 2, 1), drawn_rule(draw, 3, 2,
                                                                  1), (draw.randint(-3, 3), draw.randint(1, 3))
            term, first = drawn_term(draw, 2), drawn_island(draw, 5, 2)
            made = outcome(term_rule, term)
            if not isinstance(made[0], tuple):
                continue
            times = draw.randint(1, 3)
            last = draw.choice((stepped_times(one, first, times), first))
            number = speed(one, u) + draw.randint(0, 1)
            asked = (("R dies", is_empty(one)), ("R stays", is_staying(one)), ("R covers", covers_all(one)),
                     ("R like S", one == other), ("R lesser S", is_lesser(one, other)),
                     ("S faster R", not never_faster(other, one)),
                     (f"R speeds ( {u[0]} {u[1]} ) {number}", speed(one, u) == number),
                     (f"R leads A to B in {times}", stepped_times(one, first, times) == last),
                     ("T makes R", made == one),
                     ("A grows B", set(first) <= set(last)))
            words = [draw.choice(("say", "deny")) for _ in asked]
            text = [f"rule R is {rule_text(one)}", f"rule S is {rule_text(other)}", f"term T is {term_text(term)}",
                    f"island A is {island_text(first)}", f"island B is {island_text(last)}"]
            text += [f"{word} {saying}" for word, (saying, truth) in zip(words, asked)]
            found = Page("\n".join(text))
            wanted = tuple((5 + k, truth == (word == "say")) for k,
                           (word, (saying, truth)) in enumerate(zip(words, asked)))
            self.assertEqual(found.rows, wanted)
            self.assertIs(found.all_true(), all(truth for line, truth in wanted))

    def test_rows_len_iteration_all_true(self):
        found = page("", "say TWO dies", "   ", "deny TWO dies", "say STAY stays")
        self.assertEqual(found.rows, ((LINES + 1, True), (LINES + 3, False), (LINES + 4, True)))
        self.assertEqual((len(found), tuple(found)), (3, found.rows))
        self.assertIs(found.all_true(), False)
        self.assertIs(page("say TWO dies", "deny STAY dies").all_true(), True)
        empty = page()
        self.assertEqual((empty.rows, len(empty), list(empty), empty.all_true()), ((), 0, [], True))

    def test_named(self):
        found = page("say TWO dies")
        for kind, things in zip(KINDS, (RULES, TERMS, ISLANDS)):
            for name, value in things.items():
                self.assertEqual(found.named(name), (kind, value))
        self.assertEqual(found.named(name="TWO"), ("rule", TWO))
        for name in ODD + ("X", "two", "TWO ", "rule", "say", "dies"):
            self.refused(BadParameter(name), found.named, name)


class Written(Case):

    def test_str(self):
        text = "\n  island  A is ( 0  0 )   \n\n \nrule R1 is   ( 0 0 ) ;  ( 1 0 )\n say R1  dies\n\n"
        found = Page(text)
        self.assertEqual(str(found), "island A is ( 0 0 )\nrule R1 is ( 0 0 ) ; ( 1 0 )\nsay R1 dies")
        self.assertEqual(found.rows, ((5, False),))
        again = Page(text=str(found))
        self.assertTrue(again == found)
        self.assertFalse(again != found)
        self.assertEqual(again.rows, ((2, False),))
        self.assertEqual(str(again), str(found))

    def test_there_and_back(self):
        for draw in drawings(30, 551):
            lines = HEAD.split("\n")[:-1] + [draw.choice(("say ", "deny ")) + draw.choice(SAYINGS)[0] for _ in range(9)]
            wide = [draw.choice(("", " ", "  ")) + line.replace(" ",
                                                                draw.choice((" ", "   "))) + draw.choice(("", "\n",
                                                                                                          "\n  "))
                    for line in lines]
            found = Page("\n".join(wide))
            self.assertEqual(str(found), "\n".join(lines))
            self.assertTrue(Page(str(found)) == found)

    def test_equality(self):
        one = page("say TWO dies")
        self.assertTrue(one == Page("\n\n" + HEAD + "  say  TWO dies\n"))
        self.assertFalse(one == page("say TWO dies", "say TWO dies"))
        self.assertFalse(one == page("deny TWO dies"))
        self.assertTrue(one != page())
        for value in ODD + (str(one), one.rows):
            self.assertFalse(one == value)
            self.assertTrue(one != value)


class Refused(Case):

    def test_no_page(self):
        for text in ("", " ", "\n", "\n\n  \n", "\n" * 500, " \n" * 201):
            self.refused(BadText(0, 0), Page, text)
        for text in ODD:
            if not isinstance(text, str):
                self.refused(BadText(0, 0), Page, text)

    def test_200_and_201_lines(self):
        line = "island A is none"
        for lines in ([line] + 199 * [""], 199 * ["  "] + [line], [line] + 199 * ["say A grows A"]):
            self.assertEqual(len(Page("\n".join(lines))), lines.count("say A grows A"))
            self.refused(TooGreat(200), Page, "\n".join(lines + [""]))
            self.refused(TooGreat(200), Page, "\n".join([""] + lines))
            # Ahead of words that are wrong.
            self.refused(TooGreat(200), Page, "\n".join(["wrong"] + lines))
        # A line feed at the end makes one more line.
        self.refused(TooGreat(200), Page, line + 200 * "\n")
        Page(line + 199 * "\n")

    def test_the_first_wrong_word_of_a_line(self):
        cases = (
            ("x", 0), ("Rule R is ( 0 0 )", 0), ("rules", 0), ("is", 0), ("RULE R is ( 0 0 )", 0),
            ("\tsay TWO dies", 0),
            ("rule r is ( 0 0 )", 1), ("rule 1A is ( 0 0 )", 1), ("rule ABCDEFGHI is ( 0 0 )", 1),
            ("rule Ab is ( 0 0 )", 1),
            ("rule A_ is ( 0 0 )", 1), ("rule \u00c4 is ( 0 0 )", 1), ("rule A\u0661 is ( 0 0 )", 1),
            ("rule A- is ( 0 0 )", 1),
            ("rule TWO is ( 0 0 )", 1), ("term TWO is at ( 0 0 )", 1), ("island T is none", 1),
            ("rule A is ( 0 0 )", 1),
            ("rule R as ( 0 0 )", 2), ("rule R ( 0 0 )", 2), ("rule R is none", 3), ("rule R is ( 0 0 ) ( 1 0 ) ]", 11),
            ("rule R is ( 0 00 )", 5), ("term R is ( 0 0 )", 3), ("term R is at ( 0 0 ) at", 8),
            ("term R is most [ ; ]", 5),
            ("island R is ( 0 0 ) ; ( 1 0 )", 7), ("island R is none none", 4), ("island R is at ( 0 0 )", 3),
            ("say", 1), ("deny", 1), ("say R dies", 1), ("say is dies", 1), ("say rule dies", 1), ("say two dies", 1),
            ("say TWO", 2), ("say TWO die", 2), ("say TWO makes T", 2), ("say TWO grows A", 2), ("say T dies", 2),
            ("say T grows A", 2), ("say A makes TWO", 2), ("say A leads A to B in 1", 2), ("say T like T", 2),
            ("deny B stays", 2),
            ("say TWO dies now", 3), ("say TWO stays stays", 3), ("say TWO covers TWO", 3), ("say TWO like", 3),
            ("say TWO like T", 3), ("say TWO lesser A", 3), ("say TWO faster X", 3), ("say TWO like LEFT LEFT", 4),
            ("say T makes T", 3), ("say T makes A", 3), ("say T makes", 3), ("say T makes TWO TWO", 4),
            ("say A grows TWO", 3),
            ("say A grows", 3), ("say A grows B B", 4), ("say TWO speeds 1 1 -1", 3), ("say TWO speeds ( 1 1 )", 7),
            ("say TWO speeds ( 1 1 ) x", 7), ("say TWO speeds ( 1 1 ) 1 1", 8),
            ("say TWO speeds ( 1 1 ) 1" + 61 * "0", 7),
            ("say TWO speeds ( 1 ) 1", 5), ("say TWO leads", 3), ("say TWO leads TWO to B in 1", 3),
            ("say TWO leads A B in 1", 4),
            ("say TWO leads A to T in 1", 5), ("say TWO leads A to B", 6), ("say TWO leads A to B by 1", 6),
            ("say TWO leads A to B in", 7), ("say TWO leads A to B in 0", 7), ("say TWO leads A to B in 61", 7),
            ("say TWO leads A to B in -1", 7), ("say TWO leads A to B in 01", 7), ("say TWO leads A to B in B", 7),
            ("say TWO leads A to B in 1" + 60 * "0", 7), ("say TWO leads A to B in 1 1", 8), ("rule", 1), ("rule R", 2),
            ("rule R is", 3), ("rule R is ( 0 0", 6), ("rule R is ( 0 0 ) ;", 8), ("island R is", 3),
            ("term R is turned", 4))
        for line, word in cases:
            self.refused(BadText(LINES, word), page, line)
            self.refused(BadText(LINES + 2, word), page, "", "say TWO dies", "  " + line.replace(" ", "  "), "wrong")
        for good in ("say TWO leads A to B in 1", "say TWO leads A to B in 60", "rule ABCDEFGH is ( 0 0 )",
                     "rule Z9999999 is ( 0 0 )",
                     "rule R is ( 0 0 )", "term RULE is at ( 0 0 )", "island IS is none"):
            page(good)

    def test_names_are_given_once_and_in_lines_ahead(self):
        self.refused(BadText(0, 1), Page, "say R dies\nrule R is ( 0 0 )")
        self.refused(BadText(1, 1), Page, "rule R is ( 0 0 )\nrule R is ( 0 0 )")
        self.refused(BadText(1, 1), Page, "rule R is ( 0 0 )\nisland R is none")
        self.refused(BadText(1, 3), Page, "rule R is ( 0 0 )\nsay R like S\nrule S is ( 0 0 )")
        self.refused(BadText(2, 5), Page,
                     "rule R is ( 0 0 )\nisland A is none\nsay R leads A to B in 1\nisland B is none")

    def test_errors_of_values_behind_the_words_of_their_line(self):
        cases = (("rule R is ( 1 0 ) ; ( 0 0 )", BadRule((1,))), ("rule R is ( 21 0 )", BadRule((0,))),
                 ("term R is most [ ]", BadTerm(())), ("term R is turned at ( 21 0 )", BadTerm((0,))),
                 ("term R is " + "turned " * 6 + "at ( 0 0 )", TooGreat(6)),
                 ("term R is " + "turned " * 3990 + "at ( 0 0 )", TooGreat(6)),
                 ("term R is most [ " + "at ( 0 0 ) " * 20 + "]", TooGreat(20)),
                 ("island R is ( 1 0 ) ( 0 0 )", BadIsland(((1, 0), (0, 0)))),
                 ("say TWO speeds ( 0 0 ) 1", BadDirection((0, 0))),
                 (f"deny TWO speeds ( {FAR + 1} 0 ) 1", BadDirection((FAR + 1, 0))))
        for line, error in cases:
            self.refused(error, page, line)
            # Ahead of the words of later lines, and of the work of sayings ahead.
            self.refused(error, page, line, "wrong")
            self.refused(error, page, "rule GREAT is " + rule_text(FAN_61), "say GREAT dies", line)
            self.refused(BadText(LINES, 0), page, "wrong", line)
            if not line.startswith("term R is turned turned"):
                self.refused(BadText(LINES, len(line.split())), page, line + " x")
        self.refused(BadText(LINES, 3995), page, "term R is " + "turned " * 3988 + "at ( 0 0 x")

    def test_4000_and_4001_words_of_a_line(self):
        start = "island R is " + " ".join(f"( {k} 0 )" for k in range(999))
        self.assertEqual(len(start.split()), 3999)
        self.refused(BadIsland(tuple((k, 0) for k in range(999))), page, start)
        self.refused(BadText(LINES, 4000), page, start + " (")
        self.refused(BadText(LINES, 3999), page, start + " x")
        self.refused(BadText(LINES, 3999), page, start + " x" * 9)
        self.refused(TooGreat(4000), page, start + " ( 1")
        self.refused(TooGreat(4000), page, start + " ( x")
        self.refused(TooGreat(4000), page, start + " ( 1", "wrong")
        self.refused(BadText(LINES, 0), page, "wrong" + " x" * 5000)
        # Each line is counted by itself.
        rows = " ".join(f"( {k} 0 )" for k in range(400))
        self.assertEqual(len(Page("\n".join(f"island A{k} is {rows}" for k in range(20)))), 0)

    def test_work_behind_all_lines(self):
        great = "rule GREAT is " + rule_text(FAN_61)
        grows = "island WIDE is " + " ".join(f"( {x} {y} )" for x in range(20) for y in range(20))
        for saying in ("GREAT dies", "GREAT covers", "GREAT faster TWO", "TWO faster GREAT"):
            for word in ("say", "deny"):
                self.refused(TooGreat(60), page, great, f"{word} {saying}")
                self.refused(BadText(LINES + 2, 0), page, great, f"{word} {saying}", "wrong")
                self.refused(BadRule((0,)), page, great, f"{word} {saying}", "rule R is ( 21 0 )")
        self.refused(TooGreat(400), page, grows, "say LEFT leads WIDE to WIDE in 1")
        self.refused(TooGreat(60), page, "term MANY is again rank 1 [ ( 0 0 ) ( 0 1 ) ( 1 0 ) ] 60",
                     "say MANY makes TWO")
        # In turn: the first saying that cannot be worked out tells the error.
        self.refused(TooGreat(400), page, great, grows, "say TWO dies", "say LEFT leads WIDE to A in 60",
                     "say GREAT dies")
        self.refused(TooGreat(60), page, great, grows, "deny GREAT dies", "say LEFT leads WIDE to A in 1")
        # What asks no fan is no matter for such a rule.
        self.assertEqual(page(great, "say GREAT stays", "say GREAT like GREAT", "say GREAT lesser TWO").rows,
                         ((LINES + 1, False), (LINES + 2, True), (LINES + 3, False)))
        self.assertEqual(page("rule SQ is " + rule_text(TWO_OF_FOUR), "say SQ dies").rows, ((LINES + 1, False),))


if __name__ == "__main__":
    unittest.main()
