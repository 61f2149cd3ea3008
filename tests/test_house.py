"""[52], [53] A house."""

import unittest

from allislands.errors import BadDeed, BadIsland, BadParameter, BadPlace, BadRule, NothingBack, TooGreat
from allislands.house import House
from allislands.islands import box
from tests.tools import LEFT, ODD, STAY, TWO, Case, drawings, drawn_island, drawn_rule, outcome, step

BIG = 10 ** 9
PAIR = ((0, 0), (1, 0))
ONE = ((0, 0),)
WHOLE = box(20, 20)
RIGHT = (((-1, 0),), ((0, 0),))
ONWARD = (((-1, 0),),)
NO_NAMES = (-1, 20, 10 ** 30, True, False, None, 0.0, "0", (0,), [0])
NO_DEEDS = ODD + ((), ("put",), ("put", 0), ("put", 0, (), ()), ("drop",), ("drop", 0, 0), ("shift", 0),
                  ("shift", 0, (0, 0), 1),
                  ("join", 0), ("join", 0, 1, 2), ("step",), ("step", 0), ("step", 61), ("step", -1), ("step", True),
                  ("step", 1.0), ("step", "1"), ("step", None), ("step", 1, 1), ["drop", 0], ("PUT", 0, ()),
                  ("steps", 1),
                  (0, "put", ()), (b"drop", 0), ("undo",), (("drop", 0),), ("put ", 0, ()))
NO_DEEDS += tuple(("drop", name) for name in NO_NAMES) + tuple(("put", name, ()) for name in NO_NAMES)
NO_DEEDS += tuple(("shift", name, (0, 0)) for name in NO_NAMES) + tuple(("join", name, 0) for name in NO_NAMES)
NO_DEEDS += tuple(("join", 0, name) for name in NO_NAMES)


def told(house):
    """All that a house tells."""
    return ({name: house.island(name) for name in house.names()}, house.age(), house.log(), house.rule)


def made(rule, **islands):
    house = House(rule)
    for name, island in islands.items():
        house.do(("put", int(name[1:]), island))
    return house


class Plain:
    """A house by the document's words; it keeps all that was, to go back."""

    def __init__(self, rule):
        self.rule, self.islands, self.age, self.past = rule, {}, 0, []

    def do(self, deed):
        now = dict(self.islands)
        word, name, rest = deed[0], deed[1], deed[2:]
        if word == "step":
            for name in sorted(now):
                marks = set(now[name])
                for _ in range(deed[1]):
                    marks = step(self.rule, marks)
                    if len(marks) > 400:
                        return (TooGreat, {"most": 400})
                now[name] = tuple(sorted(marks))
        elif (word == "put") == (name in now):
            return (BadParameter, {"value": name})
        elif word == "put":
            now[name] = rest[0]
        elif word == "drop":
            del now[name]
        elif word == "shift":
            now[name] = tuple((x + rest[0][0], y + rest[0][1]) for x, y in now[name])
        elif rest[0] not in now:
            return (BadParameter, {"value": rest[0]})
        else:
            now[name] = tuple(sorted(set(now[name]) | set(now[rest[0]])))
            if len(now[name]) > 400:
                return (TooGreat, {"most": 400})
        self.past.append((deed, self.islands, self.age))
        self.islands, self.age = now, self.age + (deed[1] if word == "step" else 0)
        return None

    def undo(self):
        if not self.past:
            return (NothingBack, {})
        deed, self.islands, self.age = self.past.pop()
        return None

    def told(self):
        return (self.islands, self.age, tuple(deed for deed, islands, age in self.past), self.rule)


def drawn_deed(draw, names=4):
    word = draw.choice(("put", "put", "drop", "shift", "join", "join", "step", "step"))
    name = draw.randrange(names)
    if word == "put":
        return (word, name, drawn_island(draw, 6, 3))
    if word == "drop":
        return (word, name)
    if word == "shift":
        return (word, name, (draw.randint(-5, 5), draw.randint(-5, 5)))
    if word == "join":
        return (word, name, draw.randrange(names))
    return (word, draw.randint(1, 3))


class Deeds(Case):

    def test_a_new_house(self):
        house = House(TWO)
        self.assertEqual((house.rule, house.names(), house.living(), house.age(), house.log(), len(house), list(house)),
                         (TWO, (), (), 0, (), 0, []))
        self.assertEqual(House(rule=LEFT).rule, LEFT)
        for rule, place in ((None, ()), ((), ()), ((((1, 0),), ((0, 0),)), (1,)), ((None,), (0,))):
            self.refused(BadRule(place), House, rule)

    def test_each_deed(self):
        house = House(TWO)
        self.assertIsNone(house.do(("put", 3, PAIR)))
        self.assertIsNone(house.do(deed=("put", 0, ())))
        self.assertEqual((house.names(), house.living(), house.island(3), house.island(name=0)),
                         ((0, 3), (3,), PAIR, ()))
        house.do(("join", 0, 3))
        self.assertEqual((house.island(0), house.island(3), house.living()), (PAIR, PAIR, (0, 3)))
        house.do(("shift", 0, (5, -7)))
        self.assertEqual((house.island(0), house.island(3)), (((5, -7), (6, -7)), PAIR))
        house.do(("join", 3, 0))
        self.assertEqual(house.island(3), PAIR + ((5, -7), (6, -7)))
        house.do(("join", 3, 3))
        self.assertEqual(house.island(3), PAIR + ((5, -7), (6, -7)))
        house.do(("step", 1))
        self.assertEqual((house.island(0), house.island(3), house.age()), (((5, -7),), ((0, 0), (5, -7)), 1))
        house.do(("step", 60))
        self.assertEqual((house.island(0), house.island(3), house.age(), house.living()), ((), (), 61, ()))
        house.do(("drop", 0))
        self.assertEqual(house.names(), (3,))
        self.assertEqual(house.log(), (("put", 3, PAIR), ("put", 0, ()), ("join", 0, 3), ("shift", 0, (5, -7)),
                                       ("join", 3, 0),
                                       ("join", 3, 3), ("step", 1), ("step", 60), ("drop", 0)))
        self.assertEqual(len(house), 9)
        self.assertEqual(tuple(house), house.log())

    def test_against_the_words(self):
        seen = set()
        for draw in drawings(60, 520):
            rule = drawn_rule(draw, 3, 2, 1)
            house, plain = House(rule), Plain(rule)
            for _ in range(25):
                if draw.random() < 0.15:
                    found, wanted = outcome(house.undo), plain.undo()
                else:
                    deed = drawn_deed(draw)
                    found, wanted = outcome(house.do, deed), plain.do(deed)
                    seen.add((deed[0], wanted and wanted[0]))
                self.assertEqual(found, wanted)
                self.assertEqual(told(house), plain.told())
                self.assertEqual(house.names(), tuple(sorted(plain.islands)))
                self.assertEqual(house.living(), tuple(sorted(name for name in plain.islands if plain.islands[name])))
                self.assertEqual((len(house), tuple(house)), (len(plain.past), house.log()))
        self.assertEqual(seen, {("put", None), ("put", BadParameter), ("drop", None), ("drop", BadParameter),
                                ("shift", None),
                                ("shift", BadParameter), ("join", None), ("join", BadParameter), ("step", None),
                                ("step", TooGreat)})

    def test_no_deed(self):
        house = made(TWO, n0=PAIR)
        ahead = told(house)
        for value in NO_DEEDS:
            self.refused(BadDeed(0), house.do, value)
            # Ahead of all else, what is behind it in a tuple of deeds, too.
            self.refused(BadDeed(1), house.follow, (("drop", 19), value, None))
            self.refused(BadDeed(0), house.trial, (value,))
        self.assertEqual(told(house), ahead)

    def test_names(self):
        house = made(TWO, n0=PAIR, n19=ONE)
        self.assertEqual(house.names(), (0, 19))
        for name in NO_NAMES + (1, 18):
            self.refused(BadParameter(name), house.island, name)
        self.refused(BadParameter(0), house.do, ("put", 0, PAIR))
        self.refused(BadParameter(19), house.do, ("put", 19, None))
        self.refused(BadParameter(1), house.do, ("drop", 1))
        self.refused(BadParameter(1), house.do, ("shift", 1, None))
        self.refused(BadParameter(1), house.do, ("join", 1, 2))
        self.refused(BadParameter(1), house.do, ("join", 1, 0))
        self.refused(BadParameter(2), house.do, ("join", 0, 2))
        self.refused(BadParameter(1), house.do, ("join", 1, 1))
        house.do(("drop", 0))
        self.refused(BadParameter(0), house.do, ("drop", 0))
        self.refused(BadParameter(0), house.do, ("join", 19, 0))
        house.do(("put", 0, ONE))
        self.assertEqual(house.island(0), ONE)
        for name in range(1, 19):
            house.do(("put", name, ()))
        self.assertEqual(house.names(), tuple(range(20)))

    def test_islands_and_places(self):
        house = made(TWO, n0=PAIR)
        for island in (None, PAIR[::-1], ((BIG + 1, 0),), WHOLE + ((20, 0),), [(0, 0)], ((0, True),), 5):
            self.refused(BadIsland(island), house.do, ("put", 1, island))
        for place in (None, (0, BIG + 1), (True, 0), [0, 0], (0,), ONE):
            self.refused(BadPlace(place), house.do, ("shift", 0, place))
        self.assertEqual(house.log(), (("put", 0, PAIR),))

    def test_places_too_far(self):
        house = made(ONWARD, n0=((BIG - 2, -BIG),))
        house.do(("step", 2))
        self.assertEqual(house.island(0), ((BIG, -BIG),))
        self.refused(TooGreat(BIG), house.do, ("step", 1))
        house.undo()
        self.refused(TooGreat(BIG), house.do, ("step", 60))
        self.assertEqual(told(house), ({0: ((BIG - 2, -BIG),)}, 0, (("put", 0, ((BIG - 2, -BIG),)),), ONWARD))
        self.refused(TooGreat(BIG), house.do, ("shift", 0, (3, 0)))
        self.refused(TooGreat(BIG), house.do, ("shift", 0, (0, -1)))
        house.do(("shift", 0, (2, 0)))
        house.do(("shift", 0, (-BIG, BIG)))
        house.do(("shift", 0, (-BIG, BIG)))
        self.assertEqual(house.island(0), ((-BIG, BIG),))
        self.refused(TooGreat(BIG), house.do, ("shift", 0, (-1, 0)))
        self.refused(TooGreat(BIG), house.do, ("shift", 0, (0, 1)))
        # Places that were there already are at most so far away: they stay, are put, are joined.
        far = ((-BIG, -BIG), (BIG, BIG))
        house = made(STAY, n0=far, n1=ONE)
        house.follow((("step", 60), ("join", 1, 0), ("shift", 0, (0, 0))))
        self.assertEqual(house.island(1), (far[0],) + ONE + (far[1],))
        # What is gone behind the last step is not too far away.
        house = made((((-3, 0), (-2, 0)),), n0=((BIG - 1, 0), (BIG, 0)))
        self.refused(TooGreat(BIG), house.do, ("step", 1))
        house.do(("step", 2))
        self.assertEqual(house.island(0), ())

    def test_too_many_places(self):
        house = made(RIGHT, n0=WHOLE, n1=ONE)
        self.refused(TooGreat(400), house.do, ("step", 1))
        house = made(RIGHT, n0=box(19, 20), n1=ONE)
        self.refused(TooGreat(400), house.do, ("step", 2))
        house.do(("step", 1))
        self.assertEqual((len(house.island(0)), house.island(1)), (400, PAIR))
        house = made(TWO, n0=WHOLE, n1=ONE, n2=((20, 0),))
        house.do(("join", 0, 1))
        self.refused(TooGreat(400), house.do, ("join", 0, 2))
        self.assertEqual(house.island(0), WHOLE)
        # Fewer would be left behind later steps.
        wide = (((-3, 0), (-3, 1), (3, 1)), ((-3, 1), (-3, 2), (1, -2)), ((0, -3), (3, -1)), ((1, -1), (3, -1)),
                ((1, 0), (2, 0)))
        house = made(wide, n0=WHOLE)
        self.refused(TooGreat(400), house.do, ("step", 60))

    def test_which_error_comes_first(self):
        many, far = box(20, 20), ((BIG, 0),)
        for islands, most in (({"n0": many, "n1": far}, 400), ({"n0": far, "n1": many}, BIG),
                              ({"n5": far, "n4": many}, 400),
                              ({"n19": many, "n3": far}, BIG)):
            house = made(RIGHT, **islands)
            ahead = told(house)
            self.refused(TooGreat(most), house.do, ("step", 1))
            self.refused(TooGreat(most), house.do, ("step", 9))
            self.assertEqual(told(house), ahead)
        # Each island by all its steps: the first one is too great only behind the third of them.
        house = made(RIGHT, n0=box(18, 20), n1=far)
        self.refused(TooGreat(BIG), house.do, ("step", 2))
        self.refused(TooGreat(400), house.do, ("step", 3))
        # Too many places come ahead of places that are too far, of one island.
        house = made(RIGHT, n0=tuple((x + BIG - 19, y) for x, y in many))
        self.refused(TooGreat(400), house.do, ("step", 1))
        house = made(RIGHT, n0=tuple((x + BIG - 18, y) for x, y in box(19, 20)))
        self.refused(TooGreat(BIG), house.do, ("step", 1))
        self.refused(TooGreat(400), house.do, ("step", 2))


class ManyDeeds(Case):

    def test_follow(self):
        house = House(TWO)
        self.assertIsNone(house.follow((("put", 0, PAIR), ("put", 1, ONE), ("join", 1, 0), ("step", 1))))
        self.assertEqual((house.names(), house.island(1), house.age(), len(house)), ((0, 1), ONE, 1, 4))
        self.assertIsNone(house.follow(deeds=()))
        self.assertEqual(len(house), 4)

    def test_all_or_none(self):
        house = made(TWO, n0=PAIR)
        ahead = told(house)
        self.refused(BadParameter(0), house.follow, (("step", 1), ("put", 1, ONE), ("put", 0, ONE)))
        self.refused(BadParameter(5), house.follow, (("drop", 0), ("put", 1, ONE), ("drop", 5), ("put", 9, None)))
        self.refused(BadIsland(None), house.follow, (("drop", 0), ("put", 1, None), ("drop", 5)))
        self.refused(BadPlace(None), house.follow, (("put", 1, ONE), ("shift", 0, None)))
        self.refused(TooGreat(BIG), house.follow, (("shift", 0, (BIG - 1, 0)), ("shift", 0, (1, 0))))
        self.assertEqual(told(house), ahead)
        # A refused one hangs on those done ahead of it.
        house.follow((("drop", 0), ("put", 0, ONE)))
        self.assertEqual(house.island(0), ONE)

    def test_how_many(self):
        house = made(STAY, n0=PAIR)
        for deeds in (None, [], [("step", 1)], ("step", 1)[0], 7, {}, "deeds"):
            self.refused(BadDeed(0), house.follow, deeds)
            self.refused(BadDeed(0), house.trial, deeds)
        for many in (61, 100):
            # Ahead of what no deed is.
            for deeds in ((("step", 1),) * many, (None,) * many):
                self.refused(BadDeed(60), house.follow, deeds)
                self.refused(BadDeed(60), house.trial, deeds)
        self.assertEqual(len(house), 1)
        house.follow((("step", 1),) * 60)
        self.assertEqual((len(house), house.age()), (61, 60))
        # A deed itself is a tuple of things that are no deeds.
        self.refused(BadDeed(0), house.follow, ("step", 1))

    def test_all_are_looked_at_first(self):
        house = made(STAY, n0=PAIR)
        for at in (0, 1, 2, 59):
            deeds = [("put", 0, ONE)] * at + [("step", 61)] + [None]
            self.refused(BadDeed(at), house.follow, tuple(deeds[:60]))
            self.refused(BadDeed(at), house.trial, tuple(deeds[:60]))

    def test_trial(self):
        house = made(TWO, n0=PAIR)
        ahead = told(house)
        self.assertEqual(house.trial(()), (0, 0))
        self.assertEqual(house.trial(deeds=(("step", 2), ("put", 1, ONE), ("step", 5))), (3, 7))
        self.assertEqual(house.trial((("step", 2), ("put", 0, ONE), ("step", 5))), (1, 2))
        self.assertEqual(house.trial((("put", 0, ONE), ("step", 5))), (0, 0))
        self.assertEqual(house.trial((("put", 1, None), ("step", 5))), (0, 0))
        self.assertEqual(house.trial((("drop", 0), ("put", 0, ONE), ("shift", 0, None))), (2, 0))
        self.assertEqual(told(house), ahead)
        # How many steps there have been behind them: those done ahead of the trial, too.
        house.do(("step", 4))
        ahead = told(house)
        self.assertEqual(house.trial((("step", 2), ("drop", 7))), (1, 6))
        self.assertEqual(house.trial(()), (0, 4))
        self.assertEqual(told(house), ahead)
        house = made(RIGHT, n0=box(19, 20))
        self.assertEqual(house.trial((("step", 1), ("step", 1), ("drop", 0))), (1, 1))

    def test_trials_and_follows_agree(self):
        for draw in drawings(60, 521):
            rule = drawn_rule(draw, 3, 2, 1)
            house, deeds = House(rule), tuple(drawn_deed(draw, 3) for _ in range(draw.randint(0, 8)))
            house.follow((("put", 0, ONE), ("step", 2)))
            plain, done = Plain(rule), 0
            for deed in (("put", 0, ONE), ("step", 2)) + deeds:
                refused = plain.do(deed)
                if refused is not None:
                    break
                done += 1
            ahead = told(house)
            self.assertEqual(house.trial(deeds), (done - 2, plain.age))
            if refused is None:
                self.assertIsNone(house.follow(deeds))
                self.assertEqual(told(house), plain.told())
            else:
                self.assertEqual(outcome(house.follow, deeds), refused)
                self.assertEqual(told(house), ahead)


class Back(Case):

    def test_undo(self):
        house = House(TWO)
        self.refused(NothingBack(), house.undo)
        states = [told(house)]
        for deed in (("put", 0, PAIR), ("step", 1), ("put", 4, ONE), ("shift", 4, (1, 1)), ("join", 0, 4), ("step", 7),
                     ("drop", 4)):
            house.do(deed)
            states.append(told(house))
        while len(states) > 1:
            self.assertEqual(told(house), states.pop())
            self.assertIsNone(house.undo())
        self.assertEqual(told(house), states[0])
        self.refused(NothingBack(), house.undo)

    def test_one_deed_behind_a_follow(self):
        house = House(TWO)
        house.follow((("put", 0, PAIR), ("step", 1), ("step", 3)))
        house.undo()
        self.assertEqual((house.log(), house.age(), house.island(0)), ((("put", 0, PAIR), ("step", 1)), 1, ONE))
        house.undo()
        house.undo()
        self.refused(NothingBack(), house.undo)

    def test_a_refused_deed_is_not_taken_back(self):
        house = made(TWO, n0=PAIR)
        self.refused(BadParameter(0), house.do, ("put", 0, PAIR))
        house.undo()
        self.assertEqual(house.names(), ())
        self.refused(NothingBack(), house.undo)


class Copies(Case):

    def test_a_copy_goes_on_by_itself(self):
        house = made(TWO, n0=PAIR)
        house.do(("step", 1))
        other = house.copy()
        self.assertIsNot(other, house)
        self.assertEqual(told(other), told(house))
        ahead = told(house)
        other.follow((("put", 1, PAIR), ("step", 1)))
        self.assertEqual(told(house), ahead)
        self.assertEqual((other.names(), other.age(), len(other)), ((0, 1), 2, 4))
        house.do(("drop", 0))
        self.assertEqual(other.names(), (0, 1))
        # Its log can be taken back, too, down to the start.
        other = house.copy()
        for _ in range(3):
            other.undo()
        self.refused(NothingBack(), other.undo)
        self.assertEqual(len(house), 3)
        house.undo()
        self.assertEqual(told(house), ahead)

    def test_equal_houses(self):
        one, other = made(TWO, n0=PAIR, n1=()), made(TWO, n1=(), n0=PAIR)
        self.assertTrue(one == other)
        self.assertFalse(one != other)
        self.assertTrue(one == one.copy())
        # Neither the age nor the log is asked.
        other.follow((("put", 2, ONE), ("step", 5), ("drop", 0), ("drop", 2), ("put", 0, PAIR)))
        self.assertTrue(one == other)
        self.assertNotEqual((one.age(), len(one)), (other.age(), len(other)))
        for rule, islands in ((LEFT, {"n0": PAIR, "n1": ()}), (TWO, {"n0": PAIR}), (TWO, {"n0": PAIR, "n2": ()}),
                              (TWO, {"n0": ONE, "n1": ()}), (TWO, {})):
            self.assertFalse(one == made(rule, **islands))
            self.assertTrue(one != made(rule, **islands))
        for value in ODD + (TWO, one.log(), told(one)):
            self.assertFalse(one == value)
            self.assertTrue(one != value)

    def test_results_are_their_own(self):
        house = made(TWO, n0=PAIR)
        for found in (house.names(), house.living(), house.log(), house.island(0), house.trial(())):
            self.assertIsInstance(found, tuple)
        deeds = iter(house)
        house.do(("step", 1))
        self.assertEqual(list(deeds), [("put", 0, PAIR)])


class Facts(Case):

    def test_islands_are_led_apart(self):
        for draw in drawings(40, 522):
            rule = drawn_rule(draw, 3, 2, 1)
            one, other = drawn_island(draw, 6, 2), drawn_island(draw, 6, 2)
            both = made(rule, n0=one, n1=other)
            both.do(("step", 2))
            for name, island in ((0, one), (1, other)):
                alone = made(rule, n7=island)
                alone.do(("step", 2))
                self.assertEqual(both.island(name), alone.island(7))
            # A join holds all that comes of both.
            union = made(rule, n0=one, n1=other)
            union.follow((("join", 0, 1), ("step", 2)))
            self.assertTrue(set(both.island(0)) | set(both.island(1)) <= set(union.island(0)))
            # Shifts ahead of steps or behind them.
            first, last = made(rule, n0=one), made(rule, n0=one)
            first.follow((("shift", 0, (4, -9)), ("step", 2)))
            last.follow((("step", 2), ("shift", 0, (4, -9))))
            self.assertTrue(first == last)

    def test_enough_steps_leave_none_living(self):
        house = made(TWO, n0=box(5, 5), n1=box(9, 2))
        house.do(("step", 20))
        self.assertEqual((house.names(), house.living()), ((0, 1), ()))


if __name__ == "__main__":
    unittest.main()
