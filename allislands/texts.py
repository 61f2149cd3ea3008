"""Texts of islands, rules and terms, written and read."""

from allislands.errors import BadText
from allislands.islands import need_island
from allislands.rules import need_rule
from allislands.terms import need_term
from allislands.words import check_words, needs_of_words, places_of_words, term_of_words, words_of


def words_of_place(place):
    """The words of a place."""
    return ["(", str(place[0]), str(place[1]), ")"]


def words_of_places(places):
    """The words of places one behind the other."""
    return [word for place in places for word in words_of_place(place)]


def words_of_term(term):
    """The words of a term that is one."""
    word = term[0]
    if word == "at":
        return [word] + words_of_place(term[1])
    if word == "rank":
        return [word, str(term[1]), "["] + words_of_places(term[2]) + ["]"]
    if word == "again":
        return [word] + words_of_term(term[1]) + [str(term[2])]
    if word in ("most", "least"):
        return [word, "["] + [each for part in term[1] for each in words_of_term(part)] + ["]"]
    return [word] + [each for part in term[1:] for each in words_of_term(part)]


def island_text(island):
    """The text of an island."""
    need_island(island)
    return " ".join(words_of_places(island)) if len(island) > 0 else "none"


def rule_text(rule):
    """The text of a rule."""
    need_rule(rule)
    return " ; ".join([" ".join(words_of_places(need)) for need in rule])


def term_text(term):
    """The text of a term."""
    need_term(term)
    return " ".join(words_of_term(term))


def read_words(text, form):
    """The words of a text of a form, BadText for anything else."""
    if not isinstance(text, str):
        raise BadText(0, 0)
    words = words_of(text)
    check_words(words, form, 0, {})
    return words


def read_island(text):
    """The island that a text tells."""
    return need_island(places_of_words(read_words(text, "an island")))


def read_rule(text):
    """The rule that a text tells."""
    return need_rule(needs_of_words(read_words(text, "a rule")))


def read_term(text):
    """The term that a text tells."""
    return need_term(term_of_words(read_words(text, "a term")))
