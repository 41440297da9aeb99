"""The interface: each name is defined in its file, with these parameters, and named as in the document."""

import ast
import importlib
import inspect
import pathlib
import re
import unittest

FOLDER = pathlib.Path(__file__).resolve().parent.parent / "comesthrough"

FUNCTIONS = {
    "forms": """is_integer(thing) is_name(thing) is_word(thing) is_kind(thing) is_house(thing) is_lock(house, thing)
        is_program(house, thing) is_place(house, thing)""",
    "houses": """kind_named(house, name) sort_named(house, name) last_one(house, kind) places_of(house)
        word_at(house, place) raised_kinds(house, kind) is_meek(house) keeps_all(house) with_word(house, place, word)
        with_keeps(house, kind, keeps) with_rise(house, kind, rise) with_kind(house, name, like)
        with_sort(house, name, like) without_kind(house, kind) without_sort(house, sort) reordered(house, order)
        renamed_house(house, kinds, sorts)""",
    "texts": "show_house(house) show_program(house, program)",
    "reader": "read_house(text) read_program(house, text)",
    "runs": """is_run(house, thing) is_round(house, thing) is_stuck(house, run) is_fair(house, lap)
        hall_of(house, programs) led(house, run) words_of(house, run) unfair_to(house, lap) held_off(house, lap)
        renumbered(run, order) joined_runs(one, other)""",
    "nodes": """all_nodes(house) edges_of(house) left_out(house) places_of_edge(house, node, other, word)
        next_nodes(house, node) nodes_ahead(house, node) is_node(house, thing) is_moving(house, node)""",
    "knots": """knots_of(house) knot_edges(house, knot) knot_of(house, node) words_in(house, knot) is_bad(house, knot)
        is_young(house, knot) is_knot(house, thing)""",
    "walks": """is_walk(house, thing) is_turning(house, walk) way_to(house, node, nodes) bad_way(house, node)
        turning_walk(house, node)""",
    "standing": """waits_behind(house, run) ring_of(house, run, person) ring_words(house, run, person)
        is_standing_run(house, kind, thing) can_stand(house, kind) standing_kinds(house) standing_run(house, kind)""",
    "standpapers": "calm_of(house) is_calm(house, thing) shown_calm(house, calm)",
    "rings": "is_ring(house, kinds) ring_run(house, kinds) cross_couples(house)",
    "held": "can_be_held(house, kind) held_kinds(house) held_nodes(house) held_plan(house, kind)",
    "stories": "held_story(house, kind) story_of(house, plan) is_story(house, kind, thing)",
    "rankings": "ranking_of(house) is_ranking(house, thing) shown_through(house, ranking)",
    "fewest": "few_standing(house, kind) few_run(house, kind) few_ring(house)",
    "fewheld": """few_held(house, kind) short_plan(house, kind) cheap_plan(house, kind) few_story(house, kind)
        plan_cost(house, plan) is_plan(house, kind, thing)""",
    "growing": "few_table(house) fewer_by(house, kind, most) by_sorts(house, kind)",
    "newcomers": """outs_of(house, kind) open_kinds(house) comes_through_open(house, kind)
        is_open_reason(house, kind, thing) open_reason(house, kind)""",
    "streams": """is_stream(house, thing) goes_on(house, stream) led_stream(house, stream, times)
        stream_holds(house, stream)""",
    "openstories": """open_story(house, kind) is_open_story(house, kind, thing) is_open_ranking(house, thing)
        open_ranking(house) shown_open(house, ranking)""",
    "orders": """is_order(house, thing) can_be_held_by(house, order, kind) is_held_by(house, order, kind, thing)
        first_unordered(order, program) row_order(house, row) spots_of(house) order_edges(house, order)
        order_knots(house, order) bad_knots(house, order) held_by_order(house, order, kind)""",
    "orderpapers": "order_paper(house, order, kind) is_order_paper(house, order, kind, thing)",
    "forbidding": """held_by_orders(house, order) least_forbidden(house, order, kinds) greatest_orders(house, kinds)
        needless_couples(house, order, kind)""",
    "fillings": """filled(house, places, words) fillings(house, places, kinds, is_open)
        fixed_words(house, places, kinds, is_open) free_places(house, places, kinds, is_open)""",
    "changes": """is_change(house, thing) changed(house, change) least_changes(house, kinds, is_open, most)
        least_keeping(house, kinds, is_open) helping_rises(house, kind, is_open)""",
    "blame": "holds(house, kind, places) least_holding(house, kind) blamed(house, kind) in_all(house, kind)",
    "search": """states_many(house, programs) ways_on(house, programs, state) stuck_states(house, programs)
        run_to(house, programs, state) ending_run(house, programs) can_all_end(house, programs)""",
    "told": """told_story(house, programs, person) is_told_story(house, programs, person, thing) is_safe(house, programs)
        held_persons(house, programs) safe_orders(house, programs, person) least_company(house, programs, person)""",
    "staying": """led_staying(house, run) charges(house, run) puts_out(house, crew, one, other)
        crew_round(house, crew)""",
    "begins": "most_begins(house, crew) busiest_run(house, crew) is_possible(house, crew, counts)",
    "naming": """through_kinds(house, is_open) gaining_kinds(house, kind, kinds, is_open)
        nobody_gains(house, kinds, is_open) levelling_words(house, kinds, is_open)""",
}
METHODS = {
    ("hall", "Hall"): """enter(program) step(person) kind_of(person) place_of(person) persons_many() waits_for(person)
        holder_of(lock) locks_of(person) steppers() takers() ages() deeds_done() can_step(person) is_ended(person)
        can_take(person) state() undo() copied() __eq__(other) __init__(house)""",
    ("book", "Book"): """put_word(place, word) put_keeps(kind, keeps) put_rise(kind, rise) add_kind(name, like)
        drop_kind(kind) wish(thing) undo() redo() unwish(index) house_now() wishes_now() twin() __init__(house)""",
    ("desk", "Desk"): "execute(line) book() __init__(text)",
}


def listed(text):
    """The names of a list of signatures, with their parameters."""
    return [(name, re.findall(r"\w+", told)) for name, told in re.findall(r"(\w+)\(([^)]*)\)", text)]


class TestInterface(unittest.TestCase):
    def test_functions(self):
        for name, text in FUNCTIONS.items():
            module = importlib.import_module(f"comesthrough.{name}")
            tree = ast.parse((FOLDER / f"{name}.py").read_text())
            defined = [part.name for part in tree.body if isinstance(part, ast.FunctionDef)]
            for function, parameters in listed(text):
                self.assertIn(function, defined)
                self.assertEqual(list(inspect.signature(getattr(module, function)).parameters), parameters, function)

    def test_methods(self):
        for (name, title), text in METHODS.items():
            owner = getattr(importlib.import_module(f"comesthrough.{name}"), title)
            tree = ast.parse((FOLDER / f"{name}.py").read_text())
            bodies = [part.body for part in tree.body if isinstance(part, ast.ClassDef) and part.name == title]
            self.assertEqual(len(bodies), 1)
            defined = [part.name for part in bodies[0] if isinstance(part, ast.FunctionDef)]
            for method, parameters in listed(text):
                self.assertIn(method, defined)
                found = list(inspect.signature(getattr(owner, method)).parameters)
                self.assertEqual(found, ["self", *parameters], method)


if __name__ == "__main__":
    unittest.main()
