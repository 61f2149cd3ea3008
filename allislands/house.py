"""A house: islands under names, led by deeds that can be taken back."""

from allislands.checks import is_number, is_tuple_of
from allislands.errors import BadDeed, BadParameter, IslandError, NothingBack, TooGreat
from allislands.islands import all_joined, all_moved, let_places, need_island
from allislands.places import MOST_IN_PLACE, need_place
from allislands.rules import MOST_STEPS, all_stepped, need_rule

MOST_NAME = 19
MOST_DEEDS = 60
LENGTHS = {"put": 3, "drop": 2, "shift": 3, "join": 3, "step": 2}


def is_house_name(value):
    """Whether a value may be the name of an island."""
    return is_number(value, 0, MOST_NAME)


def is_deed(value):
    """Whether a value is a deed; its island, or its place, may be anything."""
    if not isinstance(value, tuple) or len(value) == 0 or not isinstance(value[0], str):
        return False
    word = value[0]
    if LENGTHS.get(word) != len(value):
        return False
    if word == "step":
        return is_number(value[1], 1, MOST_STEPS)
    if word == "join" and not is_house_name(value[2]):
        return False
    return is_house_name(value[1])


def need_deeds(deeds):
    """A tuple of at most 60 deeds, BadDeed for anything else."""
    if not isinstance(deeds, tuple):
        raise BadDeed(0)
    if not is_tuple_of(deeds, 0, MOST_DEEDS):
        raise BadDeed(MOST_DEEDS)
    for at, deed in enumerate(deeds):
        if not is_deed(deed):
            raise BadDeed(at)
    return deeds


def need_used(name, islands):
    """A name in use, BadParameter for another one."""
    if name not in islands:
        raise BadParameter(name)
    return name


def let_near(island):
    """An island, TooGreat(10 ** 9) if it has a place that is too far away."""
    for place in island:
        if max(abs(place[0]), abs(place[1])) > MOST_IN_PLACE:
            raise TooGreat(MOST_IN_PLACE)
    return island


def led_island(rule, island, times):
    """The island behind so many steps."""
    for _ in range(times):
        island = let_places(all_stepped(rule, island))
    return let_near(island)


def changed_island(deed, islands):
    """The island that comes under the name of a deed that is no step, None if it goes with its name."""
    word, name = deed[0], deed[1]
    if word == "put":
        if name in islands:
            raise BadParameter(name)
        return need_island(deed[2])
    need_used(name, islands)
    if word == "shift":
        return let_near(all_moved(islands[name], need_place(deed[2])))
    if word == "join":
        need_used(deed[2], islands)
        return let_places(all_joined(islands[name], islands[deed[2]]))
    return None


def islands_behind(rule, islands, deed):
    """The islands by their names behind a deed, as a dict of its own."""
    if deed[0] == "step":
        return {name: led_island(rule, islands[name], deed[1]) for name in sorted(islands)}
    island = changed_island(deed, islands)
    made = {name: islands[name] for name in islands if name != deed[1]}
    if island is not None:
        made[deed[1]] = island
    return made


class House:
    """Islands under names, led by one rule."""

    def __init__(self, rule):
        self.rule = need_rule(rule)
        # No dict is changed once it stands here, so copies may have the same ones.
        self._islands = {}
        self._age = 0
        self._deeds = ()
        self._back = ()

    def names(self):
        """The names in use, ascending."""
        return tuple(sorted(self._islands))

    def island(self, name):
        """The island under a name."""
        if not is_house_name(name):
            raise BadParameter(name)
        return self._islands[need_used(name, self._islands)]

    def living(self):
        """The names whose islands have marks, ascending."""
        return tuple([name for name in self.names() if len(self._islands[name]) > 0])

    def age(self):
        """How many steps there have been."""
        return self._age

    def do(self, deed):
        """Does a deed."""
        need_deeds((deed,))
        self._done(deed)

    def follow(self, deeds):
        """Does all deeds of a tuple in turn, or none."""
        need_deeds(deeds)
        made = self.copy()
        for deed in deeds:
            made._done(deed)
        self._take(made)

    def trial(self, deeds):
        """How many deeds would be done ahead of the first refused one, and the age behind them."""
        need_deeds(deeds)
        made = self.copy()
        for at, deed in enumerate(deeds):
            try:
                made._done(deed)
            except IslandError:
                return (at, made.age())
        return (len(deeds), made.age())

    def undo(self):
        """Takes the last deed back."""
        if len(self._back) == 0:
            raise NothingBack()
        self._islands, self._age = self._back[-1]
        self._deeds = self._deeds[:-1]
        self._back = self._back[:-1]

    def log(self):
        """The deeds done and not taken back."""
        return self._deeds

    def copy(self):
        """A house of its own with the same islands, age and log."""
        made = House(self.rule)
        made._take(self)
        return made

    def _take(self, other):
        """Takes over all that another house has come to."""
        self._islands = other._islands
        self._age = other._age
        self._deeds = other._deeds
        self._back = other._back

    def _done(self, deed):
        """Does what is known to be a deed."""
        islands = islands_behind(self.rule, self._islands, deed)
        self._back = self._back + ((self._islands, self._age),)
        self._islands = islands
        self._age = self._age + (deed[1] if deed[0] == "step" else 0)
        self._deeds = self._deeds + (deed,)

    def __len__(self):
        return len(self._deeds)

    def __iter__(self):
        return iter(self._deeds)

    def __eq__(self, other):
        return isinstance(other, House) and self.rule == other.rule and self._islands == other._islands
