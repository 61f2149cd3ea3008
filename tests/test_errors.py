"""[1] The errors and their attributes."""

import unittest

from allislands import errors
from allislands.errors import IslandError

ARGUMENTS = {
    "BadPlace": ("value",), "BadIsland": ("value",), "BadPicture": ("value",), "BadRule": ("place",),
    "BadBars": ("place",), "BadTable": ("value",), "BadTerm": ("path",), "BadDirection": ("value",),
    "BadFan": ("value",), "BadPoint": ("value",), "BadRow": ("value",), "BadStair": ("value",),
    "BadRules": ("place",), "BadMap": ("value",), "BadText": ("line", "word"), "BadDeed": ("place",),
    "BadParameter": ("value",), "NoRow": (), "Unlike": ("value",), "TooGreat": ("most",),
    "NothingBack": (),
}
VALUES = (7, "x", None, [], {}, (1, [2]), 10 ** 5000, object())


class Errors(unittest.TestCase):

    def test_all_are_directly_beneath_island_error(self):
        self.assertEqual(IslandError.__bases__, (ValueError,))
        for name in ARGUMENTS:
            self.assertEqual(getattr(errors, name).__bases__, (IslandError,), name)

    def test_there_are_no_others(self):
        found = {name for name in vars(errors) if isinstance(getattr(errors, name), type)}
        self.assertEqual(found, set(ARGUMENTS) | {"IslandError"})

    def test_arguments_are_attributes_by_position_and_by_name(self):
        for name, words in ARGUMENTS.items():
            for value in VALUES:
                told = [[value, k] for k in range(len(words))]
                for error in (getattr(errors, name)(*told),
                              getattr(errors, name)(**dict(zip(words, told)))):
                    self.assertEqual(vars(error), dict(zip(words, told)), name)
                    for word, what in zip(words, told):
                        self.assertIs(getattr(error, word), what)

    def test_arguments_are_asked_for(self):
        for name, words in ARGUMENTS.items():
            if words:
                with self.assertRaises(TypeError):
                    getattr(errors, name)()

    def test_they_can_be_raised_and_caught(self):
        for name, words in ARGUMENTS.items():
            with self.assertRaises(ValueError):
                raise getattr(errors, name)(*words)


if __name__ == "__main__":
    unittest.main()
