"""The examples of the document, to the sign."""

import doctest
import unittest

READER = '''
>>> from comesthrough.houses import last_one, places_of, raised_kinds, with_kind, word_at
>>> from comesthrough.reader import read_house
>>> from comesthrough.texts import show_house, show_program
>>> text = "kind a renews rises b\\nkind b keeps\\nsort s\\nask s a wait yield wait yield\\nask s b wait yield wait wait"
>>> house = read_house(text)
>>> house
((('a', False, 1), ('b', True, 1)), ('s',), (((('wait', 'yield'), ('wait', 'yield')), (('wait', 'yield'), ('wait', 'wait'))),))
>>> [show_house(house) == text, len(places_of(house)), word_at(house, (0, 1, 0, 1)), last_one(house, 0)]
[True, 8, 'yield', 1]
>>> [raised_kinds(house, 0), raised_kinds(house, 1), with_kind(house, "c", 1)[2][0][2]]
[(0, 1), (1,), (('wait', 'yield'), ('wait', 'wait'), ('wait', 'wait'))]
>>> show_program(house, (1, ((0, 3), "work")))
'program b\\ntake s 3\\nwork'
'''

RUNS = '''
>>> from comesthrough.hall import Hall
>>> from comesthrough.runs import held_off, is_fair, is_round, is_stuck, words_of
>>> house = ((("k", True, 0),), ("s",), (((("wait", "yield"),),),))
>>> hall = Hall(house)
>>> one, other = (0, ((0, 1), (0, 2))), (0, ((0, 2), "work", (0, 1)))
>>> [hall.enter(one), hall.enter(other), hall.step(0), hall.step(1), hall.step(0), hall.step(1)]
[0, 1, 'begin', 'begin', 'take', 'take']
>>> [hall.step(0), hall.waits_for(0), hall.steppers(), hall.step(1), hall.takers(), hall.step(1), hall.ages()]
['wait', 1, [1], 'work', [], 'yield', [0, 1]]
>>> [hall.state(), hall.step(0), hall.is_ended(0), hall.ages()]
[(((0, 1, None), (0, -1, None)), (0, 1)), 'take', True, [1]]
>>> never = ((("k", True, 0),), ("s",), (((("yield", "yield"),),),))
>>> held = (((0, ((0, 1), "work", (0, 2))), other), (0, 1, 0, 1), (1, 1, 1, 1, 0, 0, 0, 0))
>>> [words_of(never, (held[0], held[1] + held[2][:4])), is_round(never, held), is_fair(never, held), held_off(never, held)]
[['begin', 'begin', 'take', 'take', 'work', 'yield', 'begin', 'take'], True, True, [0, 1]]
>>> waits = ((("k", True, 0),), ("s",), (((("wait", "wait"),),),))
>>> is_stuck(waits, (held[0], (0, 1, 0, 1, 0, 1, 0, 1)))
True
'''

GRAPH = '''
>>> from comesthrough.knots import is_bad, knots_of, words_in
>>> from comesthrough.nodes import all_nodes, edges_of, left_out, places_of_edge
>>> from comesthrough.walks import bad_way, is_turning, turning_walk
>>> kept = ((("a", True, 0),), ("s",), (((("wait", "yield"),),),))
>>> [all_nodes(kept), knots_of(kept), [words_in(kept, knot) for knot in knots_of(kept)]]
[[('anew', 0), ('stand', 0)], [(('anew', 0),), (('stand', 0),)], [('elder',), ('younger',)]]
>>> edges_of(kept)
[(('anew', 0), ('anew', 0), 'elder'), (('anew', 0), ('stand', 0), 'elder'), (('stand', 0), ('stand', 0), 'younger')]
>>> [places_of_edge(kept, ("anew", 0), ("anew", 0), "elder"), [is_bad(kept, knot) for knot in knots_of(kept)]]
[[(0, 0, 0, 1)], [False, False]]
>>> both = ((("a", True, 0),), ("s",), (((("wait", "wait"),),),))
>>> [is_turning(both, turning_walk(both, ("stand", 0))), turning_walk(both, ("anew", 0)), bad_way(both, ("anew", 0))]
[True, None, None]
'''

RINGS = '''
>>> from comesthrough.rings import cross_couples, is_ring, ring_run
>>> from comesthrough.standing import can_stand, is_standing_run, ring_of, ring_words, standing_kinds, waits_behind
>>> from comesthrough.standpapers import is_calm, shown_calm
>>> kept = ((("a", True, 0),), ("s",), (((("wait", "yield"),),),))
>>> both = ((("a", True, 0),), ("s",), (((("wait", "wait"),),),))
>>> [can_stand(kept, 0), can_stand(both, 0), is_ring(both, (0, 0, 0)), is_ring(kept, (0, 0)), cross_couples(both)]
[False, True, True, False, [(0, 0)]]
>>> one, other = (0, ((0, 0), (0, 1))), (0, ((0, 1), (0, 0)))
>>> run = ((one, other), (0, 0, 1, 1, 0, 1))
>>> [is_standing_run(both, 0, run), waits_behind(both, run), ring_of(both, run, 1), ring_words(both, run, 1)]
[True, {0: 1, 1: 0}, [0, 1], ['younger', 'elder']]
>>> [is_calm(kept, {0: (3, "younger")}), is_calm(both, {0: (3, "younger")}), shown_calm(kept, {0: (3, "younger")})]
[True, False, [0]]
>>> [standing_kinds(both), is_standing_run(both, 0, ring_run(both, (0, 0, 0)))]
[[0], True]
'''

HELD = '''
>>> from comesthrough.held import can_be_held, held_kinds, held_plan
>>> from comesthrough.rankings import is_ranking, shown_through
>>> from comesthrough.stories import held_story, is_story, story_of
>>> moving = ((("a", False, 0),), ("s",), (((("yield", "wait"),),),))
>>> kept = ((("a", True, 0),), ("s",), (((("yield", "wait"),),),))
>>> [held_kinds(moving), held_kinds(kept), held_story(kept, 0)]
[[0], [], None]
>>> plan = ((0,), (), ((("anew", 0), ("anew", 0), "younger"),))
>>> [held_plan(kept, 0), is_story(moving, 0, held_story(moving, 0)), is_story(moving, 0, story_of(moving, plan))]
[None, True, True]
>>> one, other = (0, ((0, 0), "work", (0, 1), "work")), (0, ((0, 1), "work", (0, 0), "work"))
>>> is_story(((("a", True, 0),), ("s",), (((("wait", "wait"),),),)), 0, ((one, other), (0, 0, 1, 1, 0, 1, 0, 1)))
True
>>> [is_ranking(kept, {("stand", 0): 0, ("anew", 0): 1}), shown_through(kept, {("stand", 0): 0})]
[True, []]
'''

FEW = '''
>>> from comesthrough.fewest import few_ring, few_run, few_standing
>>> from comesthrough.fewheld import few_held, few_story, is_plan, plan_cost
>>> from comesthrough.growing import by_sorts, few_table, fewer_by
>>> both = ((("a", True, 0),), ("s",), (((("wait", "wait"),),),))
>>> kept = ((("a", True, 0),), ("s",), (((("wait", "yield"),),),))
>>> [few_standing(both, 0), few_ring(both), few_standing(kept, 0), few_held(kept, 0), len(few_run(both, 0)[0])]
[2, (0, 0), None, None, 2]
>>> moving = ((("a", False, 0),), ("s",), (((("yield", "wait"),),),))
>>> plan = ((0,), (), ((("anew", 0), ("anew", 0), "younger"),))
>>> [few_held(both, 0), few_held(moving, 0), is_plan(moving, 0, plan), plan_cost(moving, plan)]
[(2, 3), (2, 3), True, 3]
>>> [few_table(moving), fewer_by(kept, 0, 2), by_sorts(both, 0)]
[[(2, 3)], [((0, 0, 0, 0), 'yield'), ((0, 0, 0, 1), 'wait')], [(0,)]]
'''

OPEN = '''
>>> from comesthrough.newcomers import comes_through_open, is_open_reason, open_kinds, outs_of
>>> from comesthrough.openstories import is_open_ranking, is_open_story, shown_open
>>> from comesthrough.streams import goes_on, is_stream, led_stream, stream_holds
>>> waits = ((("a", True, 0),), ("s",), (((("wait", "yield"),),),))
>>> ousts = ((("a", True, 0),), ("s",), (((("oust", "wait"),),),))
>>> [comes_through_open(waits, 0), open_kinds(ousts), outs_of(ousts, 0), outs_of(waits, 0)]
[False, [0], [((0, 0, 0, 0), 'elder')], [((0, 0, 0, 1), 'elder')]]
>>> is_open_reason(waits, 0, ((0,), (), ((("stand", 0), ("stand", 0), "younger"),)))
True
>>> first, last = (0, ((0, 1),)), (0, ((0, 1), (0, 2)))
>>> stream = ((first, last), (0, 1, 1, 0), ((0, ((0, 2, 1), (0, 3, 1))),), (("new", 0, 0), ("new", 0, 0), ("new", 0, 1)))
>>> [is_stream(waits, stream), goes_on(waits, stream), stream_holds(waits, stream), is_open_story(waits, 0, stream)]
[True, True, [0], True]
>>> led_stream(waits, stream, 1)
(((0, ((0, 1),)), (0, ((0, 1), (0, 2))), (0, ((0, 2), (0, 3)))), (0, 1, 1, 0, 2, 2, 1))
>>> ranking = {("anew", 0): 0, ("stand", 0): 0}
>>> [is_open_ranking(ousts, ranking), shown_open(ousts, ranking), is_open_ranking(waits, ranking)]
[True, [0], False]
'''

ORDERS = '''
>>> from comesthrough.forbidding import greatest_orders, held_by_orders, least_forbidden
>>> from comesthrough.orders import can_be_held_by, first_unordered, order_knots, row_order
>>> from comesthrough.orderpapers import is_order_paper
>>> wait = (((("wait", "wait"),),), ((("wait", "wait"),),))
>>> house = ((("k", True, 0),), ("s", "t"), wait)
>>> [row_order(house, (1, 0)), first_unordered(((0, 1),), (0, ((0, 4), "work", (1, 0), (0, 5))))]
[((1, 0),), 3]
>>> order = ((0, 0), (0, 1), (1, 0))
>>> [order_knots(house, order), can_be_held_by(house, ((0, 1),), 0), held_by_orders(house, order)]
[[(('stand', 0, 0), ('stand', 0, 1))], False, [0]]
>>> [least_forbidden(house, order, (0,)), greatest_orders(house, (0,))]
[[((0, 0), (0, 1)), ((0, 0), (1, 0))], [((0, 1),), ((1, 0),)]]
>>> ranks = {("stand", 0, -1): 2, ("stand", 0, 0): 1, ("stand", 0, 1): 0, ("anew", 0, -1): 0}
>>> [is_order_paper(house, ((0, 1),), 0, ranks), is_order_paper(house, ((0, 0), (0, 1)), 0, ranks)]
[True, False]
'''

CHANGES = '''
>>> from comesthrough.blame import blamed, holds, in_all, least_holding
>>> from comesthrough.changes import least_changes, least_keeping
>>> from comesthrough.fillings import fillings, fixed_words
>>> house = ((("a", True, 0),), ("s",), (((("wait", "wait"),),),))
>>> elder, younger = (0, 0, 0, 0), (0, 0, 0, 1)
>>> [fillings(house, (elder,), (0,), False), fillings(house, (elder,), (0,), True)]
[[('oust',), ('yield',)], [('oust',)]]
>>> fillings(house, (elder, younger), (0,), False)[:3]
[('oust', 'wait'), ('oust', 'yield'), ('wait', 'oust')]
>>> [fixed_words(house, (elder,), (0,), False), least_changes(house, (0,), True, 1)]
[[('oust', 'yield')], [(((0, 0, 0, 0), 'oust'),)]]
>>> [least_holding(house, 0), blamed(house, 0)[0], holds(house, 0, (elder,)), len(in_all(house, 0))]
[[((0, 0, 0, 0), (0, 0, 0, 1))], ((0, 0, 0, 0), ('oust', 'yield')), False, 2]
>>> least_keeping(((("a", False, 0),), ("s",), (((("wait", "oust"),),),)), (0,), False)
[(0,)]
'''

SEARCH = '''
>>> from comesthrough.search import can_all_end, ending_run, run_to, states_many, stuck_states
>>> from comesthrough.told import held_persons, is_safe, least_company, safe_orders, told_story
>>> house = ((("k", True, 0),), ("s",), (((("wait", "wait"),),),))
>>> one, other = (0, ((0, 1), (0, 2))), (0, ((0, 2), (0, 1)))
>>> [states_many(house, (one,)), run_to(house, (one,), (((0, 1, None),), (0,)))]
[4, (((0, ((0, 1), (0, 2))),), (0, 0))]
>>> stuck_states(house, (one, other))
[(((0, 1, 1), (0, 1, 0)), (0, 1)), (((0, 1, 1), (0, 1, 0)), (1, 0))]
>>> [held_persons(house, (one, other)), is_safe(house, (one, one)), ending_run(house, (one, other))[1]]
[[0, 1], True, (0, 0, 0, 1, 1, 1)]
>>> [safe_orders(house, (one, other), 1), least_company(house, (one, other, one), 2)]
[[((0, 1), (0, 2))], [(1,)]]
>>> told_story(house, (one, one), 0) is None
True
'''

BEGINS = '''
>>> from comesthrough.begins import busiest_run, is_possible, most_begins
>>> from comesthrough.staying import charges, crew_round, led_staying, puts_out
>>> house = ((("a", True, 0),), ("s",), (((("wait", "yield"),),),))
>>> [most_begins(house, (0, 0, 0, 0)), puts_out(house, (0, 0), 1, 0), puts_out(house, (0, 0), 0, 1)]
[[1, 2, 4, 8], True, False]
>>> led_staying(house, busiest_run(house, (0, 0, 0)))
[(1, True), (2, True), (4, True)]
>>> [is_possible(house, (0, 0, 0), [1, 1, 3]), is_possible(house, (0, 0, 0), [1, 1, 4])]
[True, False]
>>> both = ((("a", True, 0),), ("s",), (((("yield", "yield"),),),))
>>> len(crew_round(both, (0, 0, 0)))
2
>>> one, other = (0, ((0, 0), "work")), (0, ((0, 0), "work"))
>>> run = ((one, other), (0, 0, 1, 1, 0, 1, 1, 1))
>>> [led_staying(house, run), charges(house, run)]
[[(1, True), (2, True)], [(1, 1, 0, 1)]]
'''

DESK = '''
>>> from comesthrough.book import Book
>>> from comesthrough.desk import Desk
>>> from comesthrough.naming import gaining_kinds, levelling_words, through_kinds
>>> house = ((("a", True, 0),), ("s",), (((("oust", "wait"),),),))
>>> [through_kinds(house, True), gaining_kinds(house, 0, (0,), True), levelling_words(house, (0,), True)]
[(0,), (), []]
>>> book = Book(house)
>>> [book.wish(("open", "a")), book.put_word((0, 0, 0, 1), "yield"), book.undo(), book.wishes_now()]
[None, None, None, [('open', 'a')]]
>>> desk = Desk("kind a keeps\\nsort s\\nask s a oust wait")
>>> [desk.execute(line) for line in ["wish through a", "put s a a elder wait", "put s a a younger yield", "wishes", "held"]]
[['done'], ['refused'], ['done'], ['through a'], []]
>>> [desk.execute(line) for line in ["unwish 0", "put s a a elder yield", "held", "blame a"]]
[['done'], ['done'], ['a'], ['s a a elder oust wait', 's a a younger oust wait']]
'''


class TestExamples(unittest.TestCase):
    def run_examples(self, text, many):
        examples = doctest.DocTestParser().get_doctest(text, {}, "examples", None, 0)
        shown = []
        found = doctest.DocTestRunner(verbose=False).run(examples, out=shown.append)
        self.assertEqual((found.failed, found.attempted), (0, many), "".join(shown))

    def test_behind_20(self):
        self.run_examples(READER, 9)

    def test_behind_24(self):
        self.run_examples(RUNS, 13)

    def test_behind_27(self):
        self.run_examples(GRAPH, 9)

    def test_behind_32(self):
        self.run_examples(RINGS, 11)

    def test_behind_37(self):
        self.run_examples(HELD, 11)

    def test_behind_43(self):
        self.run_examples(FEW, 10)

    def test_behind_47(self):
        self.run_examples(OPEN, 13)

    def test_behind_52(self):
        self.run_examples(ORDERS, 11)

    def test_behind_57(self):
        self.run_examples(CHANGES, 10)

    def test_behind_61(self):
        self.run_examples(SEARCH, 9)

    def test_behind_65(self):
        self.run_examples(BEGINS, 11)

    def test_behind_70(self):
        self.run_examples(DESK, 10)


if __name__ == "__main__":
    unittest.main()
