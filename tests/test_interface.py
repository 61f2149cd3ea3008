"""The interface: names, parameters and files."""

import importlib
import inspect
import unittest

FILES = {
    "places": """need_place(value) need_direction(value) dot(direction, place) least_direction(direction)
        turned_left(direction) in_half(direction, number, place) in_order(directions)""",
    "islands": """need_island(value) shifted(island, place) box(width, height) joined(one, other)
        common(one, other) without(one, other) within(one, other) reach(island, direction)""",
    "rules": """need_rule(rule) rule_of(needs) stepped(rule, island) stepped_times(rule, island, times)
        is_lesser(one, other) parting_island(one, other) is_parting(one, other, value)
        either_marked(one, other) both_marked(one, other) behind(one, other) moved_by(rule, place)
        power(rule, times)""",
    "bars": "bars(rule) turned_about(rule) rule_from_bars(sets) is_bar(rule, value)",
    "terms": "need_term(term) grown(places) eaten(places) middle(places) opened(places) closed(places)",
    "termwork": """term_rule(term) plain_term(rule) term_stepped(term, island) terms_alike(one, other)
        terms_parted(one, other)""",
    "speeds": "speed(rule, direction) term_speed(term, direction) half_stepped(rule, direction, number)",
}


class Interface(unittest.TestCase):

    def test_each_function_stands_in_its_file_with_its_parameters(self):
        for name, told in FILES.items():
            module = importlib.import_module(f"allislands.{name}")
            for line in told.replace(")", ")\n").split("\n"):
                if not line.strip():
                    continue
                word, rest = line.strip().split("(")
                made = getattr(module, word)
                self.assertTrue(inspect.isfunction(made), word)
                self.assertEqual(made.__module__, module.__name__, word)
                parameters = inspect.signature(made).parameters.values()
                self.assertEqual(", ".join(p.name for p in parameters) + ")", rest, word)
                for parameter in parameters:
                    self.assertIs(parameter.kind, inspect.Parameter.POSITIONAL_OR_KEYWORD)
                    self.assertIs(parameter.default, inspect.Parameter.empty)


if __name__ == "__main__":
    unittest.main()
