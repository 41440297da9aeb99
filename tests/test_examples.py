"""The examples of the document, to the sign."""

import doctest
import unittest

READER = '''
>>> from comesthrough.houses import last_one, places_of, raised_kinds, with_kind, word_at
>>> from comesthrough.reader import read_house
>>> from comesthrough.texts import show_house, show_program
>>> text = "kind a renews rises b\\nkind b keeps\\nsort s\\nask s a wait yield wait yield\\nask s b wait yield wait wait"
>>> house = read_house(text)
>>> house
((('a', False, 1), ('b', True, 1)), ('s',), (((('wait', 'yield'), ('wait', 'yield')), (('wait', 'yield'), ('wait', 'wait'))),))
>>> [show_house(house) == text, len(places_of(house)), word_at(house, (0, 1, 0, 1)), last_one(house, 0)]
[True, 8, 'yield', 1]
>>> [raised_kinds(house, 0), raised_kinds(house, 1), with_kind(house, "c", 1)[2][0][2]]
[(0, 1), (1,), (('wait', 'yield'), ('wait', 'wait'), ('wait', 'wait'))]
>>> show_program(house, (1, ((0, 3), "work")))
'program b\\ntake s 3\\nwork'
'''


class TestExamples(unittest.TestCase):
    def run_examples(self, text, many):
        examples = doctest.DocTestParser().get_doctest(text, {}, "examples", None, 0)
        shown = []
        found = doctest.DocTestRunner(verbose=False).run(examples, out=shown.append)
        self.assertEqual((found.failed, found.attempted), (0, many), "".join(shown))

    def test_behind_20(self):
        self.run_examples(READER, 9)


if __name__ == "__main__":
    unittest.main()
