"""What several tests use: drawn values, and the document's words done in the plainest way."""

import random
import unittest

from allislands.errors import IslandError

TWO = (((0, 0), (0, 1)), ((0, 0), (1, 0)), ((0, 1), (1, 0)))
LEFT = (((0, 0),), ((1, 0),))
STAY = (((0, 0),),)
# Two rules whose least needs, put together, are more than 60.
MANY = tuple(((k, 0),) for k in range(-20, 11))
MANY_UP = tuple(((k, 1),) for k in range(-20, 11))
# Values of other kinds, none of which is what the document asks for anywhere.
ODD = (None, True, False, 0, 7, -1, "", "at", b"at", 1.5, [], [(0, 0)], {}, {(0, 0): 1}, {1}, object(), int,
       (None,), (True, 0), ((0, True),), ([0, 0],), (((0, 0), 5),), ("at",), ((),), (((),),), ((((),),),))


class Case(unittest.TestCase):
    """A test that can ask for a very error with its very attributes."""

    def refused(self, error, call, *told, **named):
        with self.assertRaises(IslandError) as caught:
            call(*told, **named)
        self.assertIs(type(caught.exception), type(error), f"{caught.exception!r}, not {error!r}")
        self.assertEqual(vars(caught.exception), vars(error))


def outcome(call, *told):
    """What a call returns, or its error as a pair of the class and its attributes."""
    try:
        return call(*told)
    except IslandError as error:
        return (type(error), vars(error))


def drawn_places(draw, least, most, size):
    """An ascending tuple of least to most unlike places with numbers from -size to size."""
    grid = [(x, y) for x in range(-size, size + 1) for y in range(-size, size + 1)]
    return tuple(sorted(draw.sample(grid, draw.randint(least, most))))


def drawn_rule(draw, needs=4, places=3, size=2):
    """A rule of at most so many needs of at most so many places."""
    return least([drawn_places(draw, 1, places, size) for _ in range(draw.randint(1, needs))])


def drawn_island(draw, most=12, size=4):
    return drawn_places(draw, 0, most, size)


def drawn_term(draw, depth=3, again=3, size=2):
    """A term of at most so many terms below one another; it may be a great one."""
    words = ["at", "rank"] if depth == 1 else ["at", "most", "least", "then", "turned", "again", "rank"]
    word = draw.choice(words)
    if word == "at":
        return ("at", (draw.randint(-size, size), draw.randint(-size, size)))
    if word == "rank":
        places = drawn_places(draw, 1, 4, size)
        return ("rank", draw.randint(1, len(places)), places)
    if word in ("most", "least"):
        return (word, tuple(drawn_term(draw, depth - 1, again, size) for _ in range(draw.randint(1, 3))))
    if word == "then":
        return (word, drawn_term(draw, depth - 1, again, size), drawn_term(draw, depth - 1, again, size))
    if word == "turned":
        return (word, drawn_term(draw, depth - 1, again, size))
    return (word, drawn_term(draw, depth - 1, again, size), draw.randint(0, again))


def how_many(term):
    """How many terms a term is put together from, itself counted."""
    parts = {"most": lambda: term[1], "least": lambda: term[1], "then": lambda: term[1:],
             "turned": lambda: term[1:2], "again": lambda: term[1:2]}.get(term[0], lambda: ())()
    return 1 + sum(how_many(part) for part in parts)


def drawings(many, seed):
    """So many sources of drawn values, the same ones in each run."""
    return [random.Random(seed * 100003 + k) for k in range(many)]


def least(needs):
    """The ascending tuple of the needs that have not all places of an unlike one."""
    unlike = set(needs)
    return tuple(sorted(n for n in unlike if not any(set(m) < set(n) for m in unlike)))


def step(rule, marks):
    """A step by the document's words, as a set, however many marks come."""
    places = {(x - a, y - b) for x, y in marks for need in rule for a, b in need}
    return {(x, y) for x, y in places
            if any(all((x + a, y + b) in marks for a, b in need) for need in rule)}


def says(term, marked):
    """A term by the document's words: from the question what is marked ahead to that behind."""
    word = term[0]
    if word == "at":
        return lambda x, y: marked(x + term[1][0], y + term[1][1])
    if word in ("most", "least"):
        parts = [says(part, marked) for part in term[1]]
        if word == "most":
            return lambda x, y: any(part(x, y) for part in parts)
        return lambda x, y: all(part(x, y) for part in parts)
    if word == "then":
        return says(term[2], says(term[1], marked))
    if word == "turned":
        inside = says(term[1], lambda x, y: not marked(x, y))
        return lambda x, y: not inside(x, y)
    if word == "again":
        for _ in range(term[2]):
            marked = says(term[1], marked)
        return marked
    return lambda x, y: sum(marked(x + a, y + b) for a, b in term[2]) >= term[1]
