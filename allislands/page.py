"""Pages: rules, terms and islands under names, and sayings about them, judged."""

from allislands.cores import is_empty
from allislands.errors import BadParameter, BadText, TooGreat
from allislands.fans import never_faster
from allislands.forall import covers_all
from allislands.islands import need_island, within
from allislands.places import need_direction
from allislands.rules import is_lesser, need_rule, stepped_times
from allislands.speeds import speed
from allislands.staying import is_staying
from allislands.terms import need_term
from allislands.termwork import term_rule
from allislands.words import check_words, needs_of_words, places_of_words, term_of_words, words_of

MOST_LINES = 200


def lines_of(text):
    """The words of each line of a text, BadText or TooGreat for what is no page."""
    if not isinstance(text, str):
        raise BadText(0, 0)
    lines = [words_of(line) for line in text.split("\n")]
    if max([len(words) for words in lines]) == 0:
        raise BadText(0, 0)
    if len(lines) > MOST_LINES:
        raise TooGreat(MOST_LINES)
    return lines


def told_value(kind, words):
    """The rule, the term or the island that checked words tell."""
    if kind == "rule":
        return need_rule(needs_of_words(words))
    if kind == "term":
        return need_term(term_of_words(words))
    return need_island(places_of_words(words))


def told_direction(saying):
    """The direction of a saying of a speed."""
    return places_of_words(saying[2:6])[0]


def read_line(words, line, known):
    """Reads a line: puts what it names to what is known, which has pairs (kind, value) by names."""
    check_words(words, "a line", line, {name: known[name][0] for name in known})
    if words[0] not in ("say", "deny"):
        known[words[1]] = (words[0], told_value(words[0], words[3:]))
    elif words[2] == "speeds":
        need_direction(told_direction(words[1:]))


def is_so_of_rule(verb, rule):
    """Whether a rule does what a saying of it alone says."""
    if verb == "dies":
        return is_empty(rule)
    if verb == "stays":
        return is_staying(rule)
    return covers_all(rule)


def is_so_of_two(verb, one, other):
    """Whether one thing is to another one as a saying says."""
    if verb == "like":
        return one == other
    if verb == "lesser":
        return is_lesser(one, other)
    if verb == "faster":
        return not never_faster(one, other)
    if verb == "makes":
        return term_rule(one) == other
    return within(one, other)


def is_so(saying, known):
    """Whether the words of a saying are so."""
    value = known[saying[0]][1]
    verb = saying[1]
    if verb == "speeds":
        return speed(value, told_direction(saying)) == int(saying[6])
    if len(saying) == 2:
        return is_so_of_rule(verb, value)
    other = known[saying[2]][1]
    if verb == "leads":
        return stepped_times(value, other, int(saying[6])) == known[saying[4]][1]
    return is_so_of_two(verb, value, other)


class Page:
    """A page that has been read; `rows` has the pairs (line, truth) of its sayings."""

    def __init__(self, text):
        lines = lines_of(text)
        known = {}
        for line, words in enumerate(lines):
            if len(words) > 0:
                read_line(words, line, known)
        rows = []
        for line, words in enumerate(lines):
            if len(words) > 0 and words[0] in ("say", "deny"):
                rows.append((line, is_so(words[1:], known) == (words[0] == "say")))
        self.rows = tuple(rows)
        self._known = known
        self._lines = [" ".join(told) for told in lines if len(told) > 0]

    def all_true(self):
        """Whether all sayings are as they are told."""
        return False not in [truth for line, truth in self.rows]

    def named(self, name):
        """The pair (kind, value) of what has a name."""
        if not isinstance(name, str) or name not in self._known:
            raise BadParameter(name)
        return self._known[name]

    def __len__(self):
        return len(self.rows)

    def __iter__(self):
        return iter(self.rows)

    def __eq__(self, other):
        return isinstance(other, Page) and str(self) == str(other)

    def __str__(self):
        return "\n".join(self._lines)
