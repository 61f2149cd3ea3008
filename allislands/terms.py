"""Terms: rules told in words."""

from allislands.checks import is_number, is_tuple_of
from allislands.errors import BadTerm, NoRow, TooGreat
from allislands.needs import is_near, is_need

MOST_DEEP = 6
MOST_TERMS = 20
MOST_PARTS = 60
MOST_AGAIN = 10 ** 30
LENGTHS = {"at": 2, "most": 2, "least": 2, "then": 3, "turned": 2, "again": 3, "rank": 3}


def is_term_aside_parts(value):
    """Whether a value is a term, if its parts are terms."""
    if not isinstance(value, tuple) or len(value) == 0 or not isinstance(value[0], str):
        return False
    word = value[0]
    if LENGTHS.get(word) != len(value):
        return False
    if word == "at":
        return is_near(value[1])
    if word in ("most", "least"):
        return is_tuple_of(value[1], 1, MOST_PARTS)
    if word == "again":
        return is_number(value[2], 0, MOST_AGAIN)
    if word == "rank":
        return is_need(value[2]) and is_number(value[1], 1, len(value[2]))
    return True


def parts_of(term):
    """The terms that a term is put together from, in their order."""
    word = term[0]
    if word in ("most", "least"):
        return term[1]
    if word == "then":
        return term[1:]
    if word in ("turned", "again"):
        return term[1:2]
    return ()


def walk(term, path, seen):
    """Checks a term and then its parts; `seen` has the paths of the terms walked ahead of it."""
    if len(path) >= MOST_DEEP:
        raise TooGreat(MOST_DEEP)
    if len(seen) >= MOST_TERMS:
        raise TooGreat(MOST_TERMS)
    if not is_term_aside_parts(term):
        raise BadTerm(path)
    seen.append(path)
    for number, part in enumerate(parts_of(term)):
        walk(part, path + (number,), seen)


def need_term(term):
    """A term, an error with the path of the first part that is none."""
    walk(term, (), [])
    return term


def is_term(value):
    """Whether a value is a term as parameters are."""
    try:
        need_term(value)
    except (BadTerm, TooGreat):
        return False
    return True


def need_places(places):
    """An ascending tuple of places as in "rank"."""
    if not is_need(places):
        raise BadTerm(())
    return places


def all_turned(places):
    """The ascending tuple of -Q for all places Q of a tuple."""
    return tuple(sorted([(-first, -second) for first, second in places]))


def grown(places):
    """The term that marks P if some P + Q was marked, Q a place of the tuple."""
    need_places(places)
    return ("most", tuple([("at", place) for place in places]))


def eaten(places):
    """The term that marks P if all P + Q were marked, Q a place of the tuple."""
    need_places(places)
    return ("least", tuple([("at", place) for place in places]))


def middle(places):
    """The rank of the middle one of an odd number of places."""
    need_places(places)
    if len(places) % 2 == 0:
        raise NoRow()
    return ("rank", (len(places) + 1) // 2, places)


def opened(places):
    """First eaten, then grown by the places turned about."""
    return ("then", eaten(places), grown(all_turned(places)))


def closed(places):
    """First grown, then eaten by the places turned about."""
    return ("then", grown(places), eaten(all_turned(places)))
