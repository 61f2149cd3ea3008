"""[54] Texts."""

import unittest

from allislands.errors import BadIsland, BadRule, BadTerm, BadText, TooGreat
from allislands.islands import box, need_island
from allislands.rules import need_rule
from allislands.terms import need_term
from allislands.texts import island_text, read_island, read_rule, read_term, rule_text, term_text
from tests.tools import (LEFT, ODD, STAY, TWO, Case, drawings, drawn_island, drawn_rule, drawn_term, outcome)

BIG = 10 ** 9
TWO_TEXT = "( 0 0 ) ( 0 1 ) ; ( 0 0 ) ( 1 0 ) ; ( 0 1 ) ( 1 0 )"
RANK = ("rank", 2, ((0, 0), (0, 1), (1, 0)))
TERMS = (
    (("at", (0, -1)), "at ( 0 -1 )"),
    (("most", (("at", (0, 0)), ("at", (20, -20)))), "most [ at ( 0 0 ) at ( 20 -20 ) ]"),
    (("least", (("at", (1, 0)),)), "least [ at ( 1 0 ) ]"),
    (("then", ("at", (0, 1)), ("at", (1, 0))), "then at ( 0 1 ) at ( 1 0 )"),
    (("turned", ("at", (0, 0))), "turned at ( 0 0 )"),
    (("again", ("at", (0, 0)), 0), "again at ( 0 0 ) 0"),
    (("again", ("turned", ("at", (0, 0))), 10 ** 30), "again turned at ( 0 0 ) 1" + 30 * "0"),
    (RANK, "rank 2 [ ( 0 0 ) ( 0 1 ) ( 1 0 ) ]"),
    (("most", (("least", (RANK,)), ("then", RANK, ("again", RANK, 3)), ("turned", RANK))),
     "most [ least [ rank 2 [ ( 0 0 ) ( 0 1 ) ( 1 0 ) ] ] then rank 2 [ ( 0 0 ) ( 0 1 ) ( 1 0 ) ] again "
     "rank 2 [ ( 0 0 ) ( 0 1 ) ( 1 0 ) ] 3 turned rank 2 [ ( 0 0 ) ( 0 1 ) ( 1 0 ) ] ]"),
)
READS = (read_island, read_rule, read_term)
FIRST = {"island": ("none", "("), "rule": ("(",), "term": ("at", "most", "least", "then", "turned", "again", "rank")}
WORDS = ("(", ")", "[", "]", ";", "none", "0", "-3", "17", "at", "most", "least", "then", "turned", "again", "rank",
         "x", "-0", "21", "1000000001")


def number(word):
    figures = word[1:] if word[:1] == "-" else word
    return figures.isascii() and figures.isdigit() and str(int(word)) == word and len(figures) <= 61


class Wrong(Exception):
    """At this many words from the end on, no text begins so."""


class Plain:
    """Reads words by the document's forms, by recursion."""

    def __init__(self, words):
        self.words, self.at = words, 0

    def next(self):
        return self.words[self.at] if self.at < len(self.words) else None

    def take(self, good):
        word = self.next()
        if word is None or not good(word):
            raise Wrong(self.at)
        self.at += 1
        return word

    def place(self):
        self.take(lambda w: w == "(")
        pair = (int(self.take(number)), int(self.take(number)))
        self.take(lambda w: w == ")")
        return pair

    def places(self):
        found = []
        while self.next() == "(":
            found.append(self.place())
        return tuple(found)

    def island(self):
        if self.next() == "none":
            self.at += 1
            return ()
        return (self.place(),) + self.places()

    def rule(self):
        needs = [(self.place(),) + self.places()]
        while self.next() == ";":
            self.at += 1
            needs.append((self.place(),) + self.places())
        return tuple(needs)

    def term(self):
        word = self.take(lambda w: w in FIRST["term"])
        if word == "at":
            return (word, self.place())
        if word in ("most", "least"):
            self.take(lambda w: w == "[")
            parts = []
            while self.next() in FIRST["term"]:
                parts.append(self.term())
            self.take(lambda w: w == "]")
            return (word, tuple(parts))
        if word == "rank":
            many = int(self.take(number))
            self.take(lambda w: w == "[")
            places = self.places()
            self.take(lambda w: w == "]")
            return (word, many, places)
        first = self.term()
        if word == "turned":
            return (word, first)
        return (word, first, self.term() if word == "then" else int(self.take(number)))

    def whole(self, form):
        value = getattr(self, form)()
        if self.at < len(self.words):
            raise Wrong(self.at)
        return value


def plain_read(form, text):
    """What a text tells, or the pair of an error."""
    try:
        value = Plain([word for word in text.split(" ") if word]).whole(form)
    except Wrong as wrong:
        return (BadText, {"line": 0, "word": wrong.args[0]})
    return outcome({"island": need_island, "rule": need_rule, "term": need_term}[form], value)


class Written(Case):

    def test_islands(self):
        self.assertEqual(island_text(()), "none")
        self.assertEqual(island_text(island=((0, 0), (1, -2))), "( 0 0 ) ( 1 -2 )")
        self.assertEqual(island_text(((-BIG, BIG),)), "( -1000000000 1000000000 )")
        for island in (None, ((1, 0), (0, 0)), ((BIG + 1, 0),), box(400, 1) + ((400, 0),)):
            self.refused(BadIsland(island), island_text, island)

    def test_rules(self):
        self.assertEqual(rule_text(TWO), TWO_TEXT)
        self.assertEqual(rule_text(rule=LEFT), "( 0 0 ) ; ( 1 0 )")
        self.assertEqual(rule_text(STAY), "( 0 0 )")
        self.refused(BadRule(()), rule_text, ())
        self.refused(BadRule((1,)), rule_text, LEFT[::-1])

    def test_terms(self):
        for term, text in TERMS:
            self.assertEqual(term_text(term), text)
            self.assertEqual(read_term(text), term)
        self.assertEqual(term_text(term=RANK), TERMS[7][1])
        self.refused(BadTerm(()), term_text, ("at",))
        self.refused(BadTerm((1,)), term_text, ("then", RANK, ("turned",)))

    def test_there_and_back(self):
        for draw in drawings(80, 540):
            island, rule, term = drawn_island(draw), drawn_rule(draw), drawn_term(draw)
            self.assertEqual(read_island(island_text(island)), island)
            self.assertEqual(read_rule(rule_text(rule)), rule)
            if outcome(need_term, term) == term:
                self.assertEqual(read_term(term_text(term)), term)
        whole = box(20, 20)
        self.assertEqual(read_island(text=island_text(whole)), whole)
        self.assertEqual(read_rule(text=rule_text(TWO)), TWO)
        self.assertEqual(read_term(text=term_text(RANK)), RANK)


class Read(Case):

    def test_blanks(self):
        self.assertEqual(read_rule("   (  0 0  ) ( 0 1 )   ; ( 1 0 )  "), (((0, 0), (0, 1)), ((1, 0),)))
        self.assertEqual(read_island(" none "), ())
        self.assertEqual(read_term("  at  ( 0    0 )"), ("at", (0, 0)))
        # Only the blank stands between words.
        for sign in ("\t", "\n", "\r", "\u00a0", "\u2003", "\x0b", "\x00"):
            self.refused(BadText(0, 0), read_island, "none" + sign)
            self.refused(BadText(0, 0), read_island, sign + "none")
            self.refused(BadText(0, 1), read_island, "( 0" + sign + "0 )")
            self.refused(BadText(0, 2), read_island, "( 0 0" + sign + ")")
            self.refused(BadText(0, 4), read_island, "( 0 0 ) " + sign)
            self.refused(BadText(0, 4), read_rule, "( 0 0 ) ;" + sign + " ( 1 0 )")

    def test_signs_stand_by_themselves(self):
        self.refused(BadText(0, 0), read_island, "(0 0)")
        self.refused(BadText(0, 2), read_island, "( 0 0) ( 1 1 )")
        self.refused(BadText(0, 3), read_rule, "( 0 0 ); ( 1 1 )")
        self.refused(BadText(0, 0), read_term, "most[ at ( 0 0 ) ]")
        self.refused(BadText(0, 1), read_island, "( 0,0 )")

    def test_numbers(self):
        for word in ("00", "01", "-0", "-01", "+1", "1_0", "1.0", "1e3", "0x1", "--1", "-", "1-", "- 1", "\u0661",
                     "\u00b2", "\uff11",
                     "-\u0661", "x", "'1'", 62 * "1", "-" + 62 * "1", 100 * "0", "\u22121"):
            self.refused(BadText(0, 1), read_island, f"( {word} 0 )")
            self.refused(BadText(0, 2), read_rule, f"( 0 {word} )")
            if word != "- 1":
                self.refused(BadText(0, 1), read_term, f"rank {word} [ ( 0 0 ) ]")
                self.refused(BadText(0, 6), read_term, f"again at ( 0 0 ) {word}")
        for word in (61 * "1", "-" + 61 * "9", "1" + 60 * "0"):
            self.refused(BadIsland(((int(word), 0),)), read_island, f"( {word} 0 )")
            self.refused(BadRule((0,)), read_rule, f"( 0 {word} )")
            self.refused(BadTerm(()), read_term, f"again at ( 0 0 ) {word}")
        self.assertEqual(read_island("( -9 10 )"), ((-9, 10),))
        self.assertEqual(read_island("( 0 -1000000000 )"), ((0, -BIG),))

    def test_no_string(self):
        for value in ODD + (None, 7, b"none", ["none"], ("none",)):
            if not isinstance(value, str):
                for call in READS:
                    self.refused(BadText(0, 0), call, value)

    def test_the_first_wrong_word(self):
        cases = (("x", 0), ("none none", 1), ("none ( 0 0 )", 1), ("( 0 0 ) none", 4), ("( 0 0 ) ; ( 1 0 )", 4),
                 ("( )", 1),
                 ("( 0 )", 2), ("( 0 0 0 )", 3), ("( 0 0 ) ( 1 1 ) )", 8), ("( 0 0 ) 5", 4), ("NONE", 0),
                 (") 0 0 (", 0))
        for text, word in cases:
            self.refused(BadText(0, word), read_island, text)
        cases = (("none", 0), ("; ( 0 0 )", 0), ("( 0 0 ) ; ; ( 1 0 )", 5), ("( 0 0 ) , ( 1 0 )", 4),
                 ("( 0 0 ) ; none", 5),
                 ("[ ( 0 0 ) ]", 0), ("( 0 0 ) ; ( 1 0 ) x", 9))
        for text, word in cases:
            self.refused(BadText(0, word), read_rule, text)
        cases = (("( 0 0 )", 0), ("at 0 0", 1), ("at ( 0 0 ) at", 5), ("most at ( 0 0 )", 1), ("most [ ( 0 0 ) ]", 2),
                 ("most [ at ( 0 0 ) ; ]", 7), ("then at ( 0 0 ) ]", 6), ("turned [", 1), ("again at ( 0 0 ) x", 6),
                 ("again 3 at ( 0 0 )", 1), ("rank [ ( 0 0 ) ]", 1), ("rank 1 ( 0 0 )", 2),
                 ("rank 1 [ at ( 0 0 ) ]", 3),
                 ("most [ ] ]", 3), ("AT ( 0 0 )", 0), ("least [ least [ ] least [ rank ] ]", 8), ("none", 0))
        for text, word in cases:
            self.refused(BadText(0, word), read_term, text)

    def test_texts_that_end_too_early(self):
        for text, calls in ((TWO_TEXT, (read_rule,)), ("( 0 0 ) ( 1 1 )", (read_island,))):
            words = text.split(" ")
            for many in range(len(words)):
                short = " ".join(words[:many])
                for call in calls:
                    found = outcome(call, short)
                    if found[:1] == (BadText,):
                        self.assertEqual(found[1], {"line": 0, "word": many})
                    else:
                        self.assertEqual(words[many - 1], ")")
        for term, text in TERMS:
            words = text.split(" ")
            for many in range(len(words)):
                self.refused(BadText(0, many), read_term, " ".join(words[:many]))
        for call in READS:
            for text in ("", " ", "    "):
                self.refused(BadText(0, 0), call, text)
        self.refused(BadText(0, 5), read_rule, "( 0 0 ) ;")

    def test_against_the_forms(self):
        kinds = set()
        for draw in drawings(400, 541):
            form = draw.choice(("island", "rule", "term"))
            value = {"island": drawn_island(draw, 3), "rule": drawn_rule(draw, 2, 2), "term": drawn_term(draw, 3)}[form]
            text = outcome({"island": island_text, "rule": rule_text, "term": term_text}[form], value)
            if not isinstance(text, str):
                continue
            words = text.split(" ")
            for _ in range(draw.randint(0, 2)):
                at = draw.randrange(len(words))
                if draw.random() < 0.5:
                    words[at] = draw.choice(("21", "1000000001")) if number(words[at]) else words[at]
                else:
                    words[at:at + draw.randint(0, 2)] = draw.choices(WORDS, k=draw.randint(0, 2))
                words = words or ["x"]
            text = " ".join(words)
            wanted = plain_read(form, text)
            kinds.add((form, wanted[0] if wanted[:1] in ((BadText,), (BadIsland,), (BadRule,), (BadTerm,)) else None))
            self.assertEqual(outcome({"island": read_island, "rule": read_rule, "term": read_term}[form], text), wanted,
                             text)
        self.assertEqual({form for form, error in kinds if error is BadText}, {"island", "rule", "term"})
        self.assertEqual({form for form, error in kinds if error is None}, {"island", "rule", "term"})
        self.assertTrue({("island", BadIsland), ("rule", BadRule), ("term", BadTerm)} <= kinds)

    def test_4000_and_4001_words(self):
        # 1,000 places are 4,000 words.
        thousand = " ".join(f"( {k} 0 )" for k in range(1000))
        value = tuple((k, 0) for k in range(1000))
        self.refused(BadIsland(value), read_island, thousand)
        self.refused(BadRule((0,)), read_rule, thousand)
        for more in (" (", " x", " none", " ( 1000 0 )", " x" * 9999):
            self.refused(TooGreat(4000), read_island, thousand + more)
            self.refused(TooGreat(4000), read_rule, thousand + more)
        # A word ahead that is refused comes first, also the 4,000th.
        self.refused(BadText(0, 3999), read_island, thousand[:-1] + "x x x")
        self.refused(BadText(0, 0), read_island, "x " + thousand)
        self.refused(BadText(0, 3999), read_island, thousand[:-2])
        self.refused(BadText(0, 4000), read_rule, " ".join(f"( {k} 0 )" for k in range(999)) + " ; ( 0 0")
        self.refused(TooGreat(4000), read_term, "turned " * 4000 + "at ( 0 0 )")
        self.refused(BadText(0, 4000), read_term, "turned " * 4000)
        self.refused(TooGreat(4000), read_term, "turned " * 4000 + "x")
        self.refused(BadText(0, 3999), read_term, "turned " * 3999 + "x")

    def test_terms_that_lie_deep(self):
        # No error of Python's own, however deep they lie; then what `need_term` says of the value.
        self.refused(TooGreat(6), read_term, "turned " * 3995 + "at ( 0 0 )")
        self.refused(TooGreat(6), read_term, "most [ " * 1300 + "] " * 1300)
        self.refused(TooGreat(6), read_term, "again " * 1990 + "at ( 0 0 )" + " 1" * 1990)
        self.refused(TooGreat(6), read_term, "then " * 600 + "at ( 0 0 ) " * 601)
        self.assertEqual(read_term("turned " * 5 + "at ( 0 0 )"), nested(5))
        self.refused(TooGreat(6), read_term, "turned " * 6 + "at ( 0 0 )")
        self.refused(TooGreat(20), read_term, "most [ " + "at ( 0 0 ) " * 20 + "]")
        self.refused(BadTerm((0,)), read_term, "most [ " + "at ( 21 0 ) " * 20 + "]")

    def test_errors_of_values_behind_all_words(self):
        self.refused(BadText(0, 8), read_island, "( 1 0 ) ( 0 0 ) x")
        self.refused(BadIsland(((1, 0), (0, 0))), read_island, "( 1 0 ) ( 0 0 )")
        self.refused(BadIsland(((0, 0), (0, 0))), read_island, "( 0 0 ) ( 0 0 )")
        self.refused(BadIsland(((BIG + 1, 0),)), read_island, f"( {BIG + 1} 0 )")
        self.refused(BadRule((1,)), read_rule, "( 1 0 ) ; ( 0 0 )")
        self.refused(BadRule((0,)), read_rule, "( 1 0 ) ( 0 0 )")
        self.refused(BadRule((0,)), read_rule, "( 21 0 )")
        self.refused(BadRule(()), read_rule, " ; ".join(f"( {k} 0 )" for k in range(61)))
        self.refused(BadRule((1,)), read_rule, "( 0 0 ) ; ( 0 0 ) ( 1 0 )")
        # Between brackets any number may stand, also none.
        self.refused(BadTerm(()), read_term, "most [ ]")
        self.refused(BadTerm(()), read_term, "rank 1 [ ]")
        self.refused(BadTerm((0, 1)), read_term, "turned then at ( 0 0 ) least [ ]")
        self.refused(BadTerm(()), read_term, "rank 3 [ ( 0 0 ) ( 1 0 ) ]")
        self.refused(BadTerm(()), read_term, "rank 1 [ ( 1 0 ) ( 0 0 ) ]")
        self.refused(BadTerm(()), read_term, "again at ( 0 0 ) -1")
        self.refused(BadTerm((1,)), read_term, "most [ at ( 0 0 ) at ( 0 21 ) ]")
        self.refused(BadTerm(()), read_term, "most [ " + "at ( 0 0 ) " * 61 + "]")


def nested(many):
    made = ("at", (0, 0))
    for _ in range(many):
        made = ("turned", made)
    return made


if __name__ == "__main__":
    unittest.main()
