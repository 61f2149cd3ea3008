"""The interface: names, parameters and files."""

import importlib
import inspect
import pathlib
import re
import unittest

FILES = {
    "places": """need_place(value) need_direction(value) dot(direction, place) least_direction(direction)
        turned_left(direction) in_half(direction, number, place) in_order(directions)""",
    "islands": """need_island(value) shifted(island, place) box(width, height) joined(one, other)
        common(one, other) without(one, other) within(one, other) reach(island, direction)""",
    "rules": """need_rule(rule) rule_of(needs) stepped(rule, island) stepped_times(rule, island, times)
        is_lesser(one, other) parting_island(one, other) is_parting(one, other, value)
        either_marked(one, other) both_marked(one, other) behind(one, other) moved_by(rule, place)
        power(rule, times)""",
    "bars": "bars(rule) turned_about(rule) rule_from_bars(sets) is_bar(rule, value)",
    "terms": "need_term(term) grown(places) eaten(places) middle(places) opened(places) closed(places)",
    "termwork": """term_rule(term) plain_term(rule) term_stepped(term, island) terms_alike(one, other)
        terms_parted(one, other)""",
    "speeds": "speed(rule, direction) term_speed(term, direction) half_stepped(rule, direction, number)",
    "fans": """need_fan(fan) need_whole(fan) fan_value(fan, direction) forms(fan) fan_of(rule) fan_of_term(term)
        fan_most(one, other) fan_least(one, other) fan_sum(one, other) fan_turned(fan) fan_times(fan, times)
        fan_moved(fan, place) never_faster(one, other) faster_at(one, other)""",
    "made": """is_whole(fan) refined(fan) fan_rule(fan) core_fan(points) core_rule(points)
        is_core_rule(points, value)""",
    "cores": """need_point(value) core(rule) term_core(term) fan_core(fan) in_core(rule, point) is_empty(rule)
        core_sides(rule) core_widths(rule, direction) core_area(rule) common_core(one, other)""",
    "dooms": """doom_of(rule) is_doom(rule, value) held_by(rule, island, doom, steps) gone_by(rule, island, doom)
        last_step(rule, width, height) all_within(rule, width, height, steps)""",
    "living": """ring_of(rule, point) is_ring(rule, point, value) living_size(rule, point, ring)
        frame_corners(frame, size) living_island(frame, size) living_at(frame, size, point, times)
        holds_moved(rule, island, place)""",
    "forall": """sides(rule, island) reach_after(rule, island, direction, steps)
        width_after(rule, island, direction, steps) after(rule, island, steps) empty_from(rule, island)
        covers_all(rule) kept_after(rule, point, ring, size, steps)
        is_kept(rule, point, ring, size, steps, place)""",
    "stairs": """need_stair(value) stair_of(corners) stair_holds(u, v, stair, place) stair_moved(u, v, stair, place)
        stair_joined(one, other) stair_common(one, other) stair_stepped(rule, u, v, stair)
        stair_steps(rule, u, v, stair, times) is_corner_kept(rule, u, v) corner_after(rule, u, v, times)
        corner_island(u, v, stair, size)""",
    "rows": """need_row_rule(rowrule) row_rule(rule, direction) span(rowrule) row_speeds(rowrule) dies_out(rowrule)
        same_speeds(one, other) need_row(row) row_holds(row, number) row_stepped(rowrule, row) is_long(rowrule, row)""",
    "running": "run(rowrule, row, times) row_last(rowrule, wide)",
    "orders": """word_stepped(rules, word, island) word_rule(rules, word) words_alike(rules, one, other)
        word_speed(rules, word, direction, rounds) word_fan(rules, word) word_core(rules, word)
        is_common_doom(rules, value) common_doom(rules, size) gone_in_any(rules, island, doom)
        living_word(rules, length)""",
    "levels": """need_picture(value) level_at(picture, place) is_flat(picture) marked_from(picture, level)
        holes_below(picture, level) picture_turned(picture) picture_cut(picture, low, high) higher_of(one, other)
        lower_of(one, other) level_stepped(rule, picture) level_steps(rule, picture, times) cleans(rule)
        flat_by(rule, picture, doom, counter)""",
    "maps": """need_change(change) mapped_place(place, change) mapped_island(island, change)
        mapped_point(point, change) mapped_rule(rule, change) mapped_direction(direction, change)
        undone_change(change) change_behind(one, other) turns_of(rule) turned_to(one, other)""",
    "tellings": """is_telling(telling, value) telling_rule(telling, value) telling_of(rule, telling)
        retold(telling, value, into)""",
    "texts": """island_text(island) rule_text(rule) term_text(term) read_island(text) read_rule(text)
        read_term(text)""",
    "staying": """is_staying(rule) standing(rule) hold_of(rule) is_hold(rule, value) held(rule, island, hold)
        spreads_to(rule) filled(rule, island) is_filled(rule, island)""",
}


CLASSES = {
    "house": ("House", """__init__(self, rule) names(self) island(self, name) living(self) age(self) do(self, deed)
        follow(self, deeds) trial(self, deeds) undo(self) log(self) copy(self) __len__(self) __iter__(self)
        __eq__(self, other)"""),
    "page": ("Page", """__init__(self, text) all_true(self) named(self, name) __len__(self) __iter__(self)
        __eq__(self, other) __str__(self)"""),
}


def calls(told):
    """The pairs of the name and the parameters of each call that is told."""
    return [line.strip().rstrip(")").split("(") for line in told.replace(")", ")\n").split("\n") if line.strip()]


class Interface(unittest.TestCase):

    def parameters(self, made, rest):
        parameters = inspect.signature(made).parameters.values()
        self.assertEqual(", ".join(p.name for p in parameters), rest, made)
        for parameter in parameters:
            self.assertIs(parameter.kind, inspect.Parameter.POSITIONAL_OR_KEYWORD)
            self.assertIs(parameter.default, inspect.Parameter.empty)

    def test_each_function_stands_in_its_file_with_its_parameters(self):
        for name, told in FILES.items():
            module = importlib.import_module(f"allislands.{name}")
            for word, rest in calls(told):
                made = getattr(module, word)
                self.assertTrue(inspect.isfunction(made), word)
                self.assertEqual(made.__module__, module.__name__, word)
                self.parameters(made, rest)

    def test_each_class_stands_in_its_file_and_has_its_methods_itself(self):
        for name, (word, told) in CLASSES.items():
            module = importlib.import_module(f"allislands.{name}")
            made = getattr(module, word)
            self.assertTrue(inspect.isclass(made))
            self.assertEqual((made.__module__, made.__bases__), (module.__name__, (object,)))
            for method, rest in calls(told):
                self.assertIn(method, vars(made))
                self.parameters(vars(made)[method], rest)

    def test_attributes_and_names_of_values(self):
        from allislands.house import House
        from allislands.maps import TURNS
        from allislands.page import Page
        from allislands.tellings import TELLINGS
        self.assertEqual(House((((0, 0),),)).rule, (((0, 0),),))
        self.assertEqual(Page("island A is none").rows, ())
        self.assertTrue(isinstance(TURNS, tuple) and isinstance(TELLINGS, tuple))

    def test_all_that_the_document_lists(self):
        doc = pathlib.Path(__file__).resolve().parent.parent.parent / "shared" / "DOC.md"
        if not doc.exists():
            self.skipTest("the document is not beside the project")
        text = doc.read_text(encoding="utf-8").split("# The interface", 1)[1]
        found = {}
        for part in text.split("## allislands/")[1:]:
            file, rest = part.split(".py", 1)
            found[file] = sorted(re.findall(r"`([a-z_]+\([a-z_, ]*\))`", rest))
        errors = found.pop("errors", None)
        self.assertEqual(errors, [])
        for file, told in FILES.items():
            self.assertEqual(found.pop(file), sorted(f"{word}({rest})" for word, rest in calls(told)), file)
        self.assertEqual(found, {"house": [], "page": []})


if __name__ == "__main__":
    unittest.main()
