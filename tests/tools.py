"""What several tests use: drawn values, and the document's words done in the plainest way."""

import functools
import itertools
import math
import random
import unittest
from fractions import Fraction

from allislands.errors import IslandError

TWO = (((0, 0), (0, 1)), ((0, 0), (1, 0)), ((0, 1), (1, 0)))
LEFT = (((0, 0),), ((1, 0),))
STAY = (((0, 0),),)
SQUARE = (((-1, 0), (0, -1)), ((-1, 0), (0, 1)), ((0, -1), (1, 0)), ((0, 0),), ((0, 1), (1, 0)))
FOUR = (((-1, 0),), ((0, -1),), ((0, 1),), ((1, 0),))
TWO_OF_FOUR = tuple(itertools.combinations(((0, 0), (0, 1), (1, 0), (1, 1)), 2))
AXES = ((1, 0), (0, 1), (-1, 0), (0, -1))
FAR = 10 ** 6
MOST = 10 ** 60
OFTEN = 10 ** 30
# Two rules whose least needs, put together, are more than 60.
MANY = tuple(((k, 0),) for k in range(-20, 11))
MANY_UP = tuple(((k, 1),) for k in range(-20, 11))
# A rule whose fan has 61 directions, one of 60, and one whose fan has 34, but that of all needs but the last 61.
FAN_60 = (
    ((-20, -10), (13, 3)), ((-19, -3), (3, 15)), ((-19, 7), (-12, 8), (1, 13)), ((-16, 12), (-5, -3), (-1, -9)),
    ((-14, -7), (20, -19)), ((-14, -4), (0, 18)), ((-13, -20), (-2, -4), (10, 7)), ((-13, 8), (4, 9)),
    ((-11, -11), (20, 14)), ((-11, -2), (-7, 19)), ((-11, -2), (-4, -3), (4, -20)), ((-8, -18), (11, 17)),
    ((-8, -3), (6, -15)), ((-8, 11), (11, 7)), ((-8, 12), (9, 6)), ((-7, 13), (12, -5)), ((-5, -8), (9, 10)),
    ((-5, -2), (10, -12)), ((-4, 15), (10, -4)), ((2, 10), (18, -17)), ((4, 6), (14, -15)), ((7, 17), (15, -19)),
    ((9, -20), (9, 19)))
FAN_61 = FAN_60[:22] + (((9, 18), (11, -16)),)
FAN_34 = FAN_61 + (((20, 20),),)
# Values of other kinds, none of which is what the document asks for anywhere.
ODD = (None, True, False, 0, 7, -1, "", "at", b"at", 1.5, [], [(0, 0)], {}, {(0, 0): 1}, {1}, object(), int,
       (None,), (True, 0), ((0, True),), ([0, 0],), (((0, 0), 5),), ("at",), ((),), (((),),), ((((),),),))


class Case(unittest.TestCase):
    """A test that can ask for a very error with its very attributes."""

    def refused(self, error, call, *told, **named):
        with self.assertRaises(IslandError) as caught:
            call(*told, **named)
        self.assertIs(type(caught.exception), type(error), f"{caught.exception!r}, not {error!r}")
        self.assertEqual(vars(caught.exception), vars(error))


def outcome(call, *told):
    """What a call returns, or its error as a pair of the class and its attributes."""
    try:
        return call(*told)
    except IslandError as error:
        return (type(error), vars(error))


def drawn_places(draw, least, most, size):
    """An ascending tuple of least to most unlike places with numbers from -size to size."""
    grid = [(x, y) for x in range(-size, size + 1) for y in range(-size, size + 1)]
    return tuple(sorted(draw.sample(grid, draw.randint(least, most))))


def drawn_rule(draw, needs=4, places=3, size=2):
    """A rule of at most so many needs of at most so many places."""
    return least([drawn_places(draw, 1, places, size) for _ in range(draw.randint(1, needs))])


def drawn_island(draw, most=12, size=4):
    return drawn_places(draw, 0, most, size)


def drawn_term(draw, depth=3, again=3, size=2):
    """A term of at most so many terms below one another; it may be a great one."""
    words = ["at", "rank"] if depth == 1 else ["at", "most", "least", "then", "turned", "again", "rank"]
    word = draw.choice(words)
    if word == "at":
        return ("at", (draw.randint(-size, size), draw.randint(-size, size)))
    if word == "rank":
        places = drawn_places(draw, 1, 4, size)
        return ("rank", draw.randint(1, len(places)), places)
    if word in ("most", "least"):
        return (word, tuple(drawn_term(draw, depth - 1, again, size) for _ in range(draw.randint(1, 3))))
    if word == "then":
        return (word, drawn_term(draw, depth - 1, again, size), drawn_term(draw, depth - 1, again, size))
    if word == "turned":
        return (word, drawn_term(draw, depth - 1, again, size))
    return (word, drawn_term(draw, depth - 1, again, size), draw.randint(0, again))


def how_many(term):
    """How many terms a term is put together from, itself counted."""
    parts = {"most": lambda: term[1], "least": lambda: term[1], "then": lambda: term[1:],
             "turned": lambda: term[1:2], "again": lambda: term[1:2]}.get(term[0], lambda: ())()
    return 1 + sum(how_many(part) for part in parts)


def drawings(many, seed):
    """So many sources of drawn values, the same ones in each run."""
    return [random.Random(seed * 100003 + k) for k in range(many)]


def least(needs):
    """The ascending tuple of the needs that have not all places of an unlike one."""
    unlike = set(needs)
    return tuple(sorted(n for n in unlike if not any(set(m) < set(n) for m in unlike)))


def step(rule, marks):
    """A step by the document's words, as a set, however many marks come."""
    places = {(x - a, y - b) for x, y in marks for need in rule for a, b in need}
    return {(x, y) for x, y in places
            if any(all((x + a, y + b) in marks for a, b in need) for need in rule)}


def says(term, marked):
    """A term by the document's words: from the question what is marked ahead to that behind."""
    word = term[0]
    if word == "at":
        return lambda x, y: marked(x + term[1][0], y + term[1][1])
    if word in ("most", "least"):
        parts = [says(part, marked) for part in term[1]]
        if word == "most":
            return lambda x, y: any(part(x, y) for part in parts)
        return lambda x, y: all(part(x, y) for part in parts)
    if word == "then":
        return says(term[2], says(term[1], marked))
    if word == "turned":
        inside = says(term[1], lambda x, y: not marked(x, y))
        return lambda x, y: not inside(x, y)
    if word == "again":
        for _ in range(term[2]):
            marked = says(term[1], marked)
        return marked
    return lambda x, y: sum(marked(x + a, y + b) for a, b in term[2]) >= term[1]


def plain_speed(rule, u):
    return max(min(-u[0] * x - u[1] * y for x, y in need) for need in rule)


def drawn_way(draw, size=4):
    """A direction that is none of (1, 0) and (-1, 0)."""
    return (draw.randint(-size, size), draw.choice((-1, 1)) * draw.randint(1, size))


def across(one, other):
    return one[0] * other[1] - one[1] * other[0]


def plain(u):
    return (u[0] // math.gcd(*u), u[1] // math.gcd(*u))


def in_turn(directions):
    """Directions, each once, in their order: half of the round by half, each to the left of those ahead."""
    def compared(u, v):
        halves = [not (w[1] > 0 or (w[1] == 0 and w[0] > 0)) for w in (u, v)]
        return halves[0] - halves[1] or -across(u, v)
    return tuple(sorted(set(directions), key=functools.cmp_to_key(compared)))


def all_ways(size):
    """All plain directions with numbers from -size to size, in their order."""
    numbers = range(-size, size + 1)
    return in_turn((a, b) for a in numbers for b in numbers if math.gcd(a, b) == 1)


def cones(things):
    return list(zip(things, tuple(things[1:]) + tuple(things[:1])))


def form(one, other):
    """The pair F with <U, F> being S for both pairs (U, S), as fractions."""
    (u, s), (v, t) = one, other
    return (Fraction(s * v[1] - t * u[1], across(u, v)), Fraction(u[0] * t - v[0] * s, across(u, v)))


def fan_at(fan, u):
    """The value of a fan's function, from the two directions that a direction lies between."""
    for (p, s), (q, t) in cones(fan):
        if across(p, u) >= 0 and across(u, q) >= 0:
            return Fraction(s * across(u, q) + t * across(p, u), across(p, q))
    raise AssertionError(u)


def told_fan(value, directions):
    """The fan of a function that is linear between some directions: of these the axes and the bends."""
    pairs = [(u, value(u)) for u in in_turn(directions)]
    found = [form(*pair) for pair in cones(pairs)]
    return tuple(pair for k, pair in enumerate(pairs) if pair[0] in AXES or found[k - 1] != found[k])


def changes(places):
    """The axes and all directions at which two of some places change parts."""
    apart = {plain((b - d, c - a)) for (a, b), (c, d) in itertools.permutations(set(places), 2)}
    return in_turn(apart | set(AXES))


def plain_fan(rule):
    """The fan of a rule's speeds, at once."""
    return told_fan(lambda u: plain_speed(rule, u), changes(place for need in rule for place in need))


def is_fan_shaped(fan):
    """Whether a fan has the axes, and of other directions bends alone, in their order."""
    ways = tuple(u for u, s in fan)
    return ways == in_turn(map(plain, ways)) and set(AXES) <= set(ways) and told_fan(dict(fan).get, ways) == fan


def fraction_point(point):
    return (Fraction(point[0], point[2]), Fraction(point[1], point[2]))


def told_point(x, y):
    """The triple of a point with two fractions."""
    parts = math.lcm(x.denominator, y.denominator)
    return (int(x * parts), int(y * parts), parts)


def hull(points):
    """The corners of some points as pairs of fractions: to the left, the least one first, none between."""
    points = sorted(set(points))
    if len(points) < 3:
        return points
    chains = []
    for row in (points, points[::-1]):
        chain = []
        for p in row:
            while len(chain) > 1 and across((chain[-1][0] - chain[-2][0], chain[-1][1] - chain[-2][1]),
                                            (p[0] - chain[-1][0], p[1] - chain[-1][1])) <= 0:
                chain.pop()
            chain.append(p)
        chains += chain[:-1]
    return chains


def plain_corners(pairs):
    """The corners of all points x with <U, x> at most S: of all crossings of two lines those in all half planes."""
    met = []
    for (u, s), (v, t) in itertools.combinations(pairs, 2):
        if across(u, v):
            x, y = form((u, s), (v, t))
            if all(w[0] * x + w[1] * y <= r for w, r in pairs):
                met.append((x, y))
    return tuple(told_point(x, y) for x, y in hull(met))


def drawn_point(draw, size=3, parts=4):
    x, y = [Fraction(draw.randint(-size * parts, size * parts), draw.randint(1, parts)) for _ in range(2)]
    return told_point(x, y)


def drawn_row_rule(draw, needs=4, numbers=3, size=4):
    """A row rule of at most so many needs of at most so many numbers from -size to size."""
    return least([tuple(sorted(draw.sample(range(-size, size + 1), draw.randint(1, numbers))))
                  for _ in range(draw.randint(1, needs))])


def drawn_row(draw, most=5, wide=5):
    """A row of at most so many stretches, perhaps without an end."""
    row, at = [], draw.randint(-9, 9)
    for _ in range(draw.randint(0, most)):
        last = at + draw.randint(0, wide)
        row.append((at, last))
        at = last + 2 + draw.randint(0, wide)
    if row and draw.random() < 0.25:
        row[0] = (None, row[0][1])
    if row and draw.random() < 0.25:
        row[-1] = (row[-1][0], None)
    return tuple(row)


def is_in_row(row, n):
    return any((left is None or left <= n) and (right is None or n <= right) for left, right in row)


def row_marks(row, window):
    """The marked places of a window, as a set."""
    return {n for n in window if is_in_row(row, n)}


def row_step(rule, row, window):
    """What a step marks of a window, by the document's words."""
    return {n for n in window if any(all(is_in_row(row, n + a) for a in need) for need in rule)}
