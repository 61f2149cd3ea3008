"""Words of texts and pages: which ones may follow one another, and what they tell.

What is still to come is kept as a list of symbols, the next one last. A symbol with a blank in it is
the name of a form or of a kind of words; any other one is a word that must stand just so.
"""

from allislands.errors import BadText, TooGreat

MOST_WORDS = 4000
MOST_FIGURES = 61
MOST_SIGNS = 8
MOST_LED = 60
FIGURES = "0123456789"
LETTERS = "ABCDEFGHIJKLMNOPQRSTUVWXYZ"

# Which kind of thing a word must be the name of.
NAMES = {"a name of a rule": "rule", "a name of a term": "term", "a name of an island": "island"}

# What a form is, by its first word; each one begins with that word or with a form that does.
FORMS = {
    ("an island", "none"): ("none",),
    ("an island", "("): ("a place", "more places"),
    ("a place", "("): ("(", "a number", "a number", ")"),
    ("more places", "("): ("a place", "more places"),
    ("a rule", "("): ("a place", "more places", "more needs"),
    ("more needs", ";"): (";", "a rule"),
    ("a term", "at"): ("at", "a place"),
    ("a term", "most"): ("most", "[", "more terms", "]"),
    ("a term", "least"): ("least", "[", "more terms", "]"),
    ("a term", "then"): ("then", "a term", "a term"),
    ("a term", "turned"): ("turned", "a term"),
    ("a term", "again"): ("again", "a term", "a number"),
    ("a term", "rank"): ("rank", "a number", "[", "more places", "]"),
    ("more terms", "at"): ("a term", "more terms"),
    ("more terms", "most"): ("a term", "more terms"),
    ("more terms", "least"): ("a term", "more terms"),
    ("more terms", "then"): ("a term", "more terms"),
    ("more terms", "turned"): ("a term", "more terms"),
    ("more terms", "again"): ("a term", "more terms"),
    ("more terms", "rank"): ("a term", "more terms"),
    ("a line", "rule"): ("rule", "a new name", "is", "a rule"),
    ("a line", "term"): ("term", "a new name", "is", "a term"),
    ("a line", "island"): ("island", "a new name", "is", "an island"),
    ("a line", "say"): ("say", "a saying"),
    ("a line", "deny"): ("deny", "a saying"),
    ("what a rule does", "dies"): ("dies",),
    ("what a rule does", "stays"): ("stays",),
    ("what a rule does", "covers"): ("covers",),
    ("what a rule does", "like"): ("like", "a name of a rule"),
    ("what a rule does", "lesser"): ("lesser", "a name of a rule"),
    ("what a rule does", "faster"): ("faster", "a name of a rule"),
    ("what a rule does", "speeds"): ("speeds", "a place", "a number"),
    ("what a rule does", "leads"): (
        "leads", "a name of an island", "to", "a name of an island", "in", "a number of steps"),
    ("what a term does", "makes"): ("makes", "a name of a rule"),
    ("what an island does", "grows"): ("grows", "a name of an island"),
}
# A saying, by the kind of thing that its first word names.
SAYINGS = {
    "rule": ("a name of a rule", "what a rule does"),
    "term": ("a name of a term", "what a term does"),
    "island": ("a name of an island", "what an island does"),
}
MAY_LACK = ("more places", "more needs", "more terms")


def words_of(line):
    """The words of a line: what stands between blanks."""
    return [word for word in line.split(" ") if word != ""]


def is_number_word(word):
    """Whether a word is an integer as texts have it."""
    figures = word[1:] if word.startswith("-") else word
    if not 1 <= len(figures) <= MOST_FIGURES:
        return False
    for figure in figures:
        if figure not in FIGURES:
            return False
    return word == "0" or figures[0] != "0"


def is_name(word):
    """Whether a word may be a name."""
    if len(word) > MOST_SIGNS or word[0] not in LETTERS:
        return False
    for sign in word:
        if sign not in LETTERS and sign not in FIGURES:
            return False
    return True


def is_word_for(symbol, word, kinds):
    """Whether a word is of a kind of words, or the very word; `kinds` tells of what kind names are."""
    if symbol == "a number":
        return is_number_word(word)
    if symbol == "a number of steps":
        return is_number_word(word) and 1 <= int(word) <= MOST_LED
    if symbol == "a new name":
        return is_name(word) and word not in kinds
    if symbol in NAMES:
        return kinds.get(word) == NAMES[symbol]
    return symbol == word


def form_of(symbol, word, kinds):
    """What a form is if it begins with a word, None if it can not, or if the symbol is no form."""
    if symbol == "a saying":
        return SAYINGS.get(kinds.get(word))
    return FORMS.get((symbol, word))


def may_come(ahead, word, kinds):
    """Whether a word may come next; takes from what is still to come what it stands for."""
    while len(ahead) > 0:
        symbol = ahead.pop()
        form = form_of(symbol, word, kinds)
        if form is not None:
            ahead.extend(form[::-1])
        elif symbol not in MAY_LACK:
            return is_word_for(symbol, word, kinds)
    return False


def check_words(words, form, line, kinds):
    """Refuses words that are not of a form: the first one that can not stand where it does."""
    ahead = [form]
    for at, word in enumerate(words):
        if at == MOST_WORDS:
            raise TooGreat(MOST_WORDS)
        if not may_come(ahead, word, kinds):
            raise BadText(line, at)
    for symbol in ahead:
        if symbol not in MAY_LACK:
            raise BadText(line, len(words))


def places_of_words(words):
    """The places that checked words tell, in their order."""
    numbers = [int(word) for word in words if is_number_word(word)]
    return tuple([(numbers[at], numbers[at + 1]) for at in range(0, len(numbers), 2)])


def needs_of_words(words):
    """The needs that checked words tell, in their order."""
    ends = [at for at, word in enumerate(words) if word == ";"] + [len(words)]
    starts = [0] + [at + 1 for at in ends[:-1]]
    return tuple([places_of_words(words[start:end]) for start, end in zip(starts, ends)])


def taken(values):
    """The tuple of the values put last, the last one first, down to the end of their list, which goes too."""
    found = []
    while values[-1] is not None:
        found.append(values.pop())
    values.pop()
    return tuple(found)


def put_behind(word, values):
    """Puts behind some values what a word makes of those put last."""
    if word in ("(", "then", "again", "rank"):
        first, second = values.pop(), values.pop()
        values.append((first, second) if word == "(" else (word, first, second))
    elif word == "[":
        values.append(taken(values))
    elif word == "]":
        values.append(None)
    elif is_number_word(word):
        values.append(int(word))
    elif word != ")":
        values.append((word, values.pop()))


def term_of_words(words):
    """The term that checked words tell."""
    # From the last word on all parts are there as soon as the word comes that puts them together;
    # without recursion, since a text may tell terms that lie thousands deep.
    values = []
    for word in words[::-1]:
        put_behind(word, values)
    return values[0]
