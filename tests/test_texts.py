"""[19] and [20]: texts, and what they show."""

import random
import unittest

from comesthrough.errors import NoKind, NoText, Wrong
from comesthrough.reader import read_house, read_program
from comesthrough.texts import show_house, show_program
from tests.samples import changed_leaves, changed_tuples, drawn_houses, drawn_program, junk, refusal, spoilt_leaf
from tests.samples import spoilt_tuples

TEXT = """kind a renews rises c
kind b keeps
kind c keeps
sort s
sort t
ask s a wait yield oust wait yield oust
ask s b wait wait wait wait wait wait
ask s c oust oust oust oust oust oust
ask t a yield yield yield yield yield yield
ask t b wait wait wait wait wait oust
ask t c wait wait wait wait yield wait"""
ALL_WAIT = ((("wait", "wait"),) * 3)
HOUSE = (
    (("a", False, 2), ("b", True, 1), ("c", True, 2)),
    ("s", "t"),
    (
        ((("wait", "yield"), ("oust", "wait"), ("yield", "oust")), ALL_WAIT, (("oust", "oust"),) * 3),
        ((("yield", "yield"),) * 3, ALL_WAIT[:2] + (("wait", "oust"),), ALL_WAIT[:2] + (("yield", "wait"),)),
    ),
)
PROGRAM = "program b\ntake s 3\nwork\ntake t 0\nwork"
FORTY, FORTY_ONE = "9" * 40, "1" + "0" * 40
HOUSES = drawn_houses(20, 150)


def loosened(draw, text):
    """A text that shows the same, with more blanks, empty lines and remarks."""
    lines = []
    for line in text.split("\n"):
        while draw.random() < 0.3:
            lines.append(draw.choice(["", "   ", "# kind z keeps", " #", "#a#b", "  # remark"]))
        words = (" " * draw.randint(1, 3)).join(line.split(" "))
        lines.append(" " * draw.randint(0, 2) + words + draw.choice(["", "  ", "#", " # kind a", "#ask x"]))
    return "\n".join(lines + [""] * draw.randint(0, 2))


def without_line(text, at):
    lines = text.split("\n")
    return "\n".join(lines[:at] + lines[at + 1:])


def with_line(text, at, line):
    """The text with another line in the place of one."""
    lines = text.split("\n")
    return "\n".join(lines[:at] + [line] + lines[at + 1:])


class Reading(unittest.TestCase):
    def bad(self, text, line, call=read_house, told=()):
        refused = refusal(call, *told, text)
        self.assertIs(refused.__class__, NoText, text)
        self.assertEqual(refused.line, line, text)

    def bad_program(self, text, line):
        self.bad(text, line, read_program, (HOUSE,))

    def bad_at(self, at, *lines):
        """Each of these lines in the place of line at of a text is the first bad one."""
        for line in lines:
            self.bad(with_line(TEXT.replace(" rises c", ""), at, line), at)


class TestShown(unittest.TestCase):
    def test_house(self):
        self.assertEqual(show_house(HOUSE), TEXT)

    def test_one_kind(self):
        house = ((("abcdefgh", False, 0),), ("a",), (((("oust", "yield"),),),))
        self.assertEqual(show_house(house), "kind abcdefgh renews\nsort a\nask a abcdefgh oust yield")

    def test_program(self):
        self.assertEqual(show_program(HOUSE, (1, ((0, 3), "work", (1, 0), "work"))), PROGRAM)
        self.assertEqual(show_program(HOUSE, (2, ((1, 10 ** 40),))), "program c\ntake t 1" + "0" * 40)

    def test_read_back(self):
        draw = random.Random(19)
        self.assertEqual(read_house(TEXT), HOUSE)
        for house in HOUSES:
            self.assertEqual(repr(read_house(show_house(house))), repr(house))
            for _ in range(5):
                program = drawn_program(draw, house, locks=10 ** draw.randint(0, 40))
                self.assertEqual(repr(read_program(house, show_program(house, program))), repr(program))

    def test_loosened(self):
        draw = random.Random(20)
        for house in HOUSES:
            self.assertEqual(read_house(loosened(draw, show_house(house))), house)
            program = drawn_program(draw, house)
            self.assertEqual(read_program(house, loosened(draw, show_program(house, program))), program)

    def test_end_and_beginning(self):
        for text in (TEXT + "\n", TEXT + "\n\n\n", "\n\n" + TEXT, TEXT + "\n  # the end", TEXT + "#", "#\n" + TEXT):
            self.assertEqual(read_house(text), HOUSE)
        self.assertEqual(read_program(HOUSE, "\n" + PROGRAM + "\n"), (1, ((0, 3), "work", (1, 0), "work")))


class TestBadHouse(Reading):
    def test_lines_of_no_sort(self):
        for at in range(11):
            self.bad_at(at, "x", "kinds a keeps", "Kind a keeps", "program a", "take s 1", "work", "kind", "sort", "ask")
            self.bad_at(at, "kind\td keeps", "\tsort u", "kind d keeps\r", "wait")

    def test_kind_lines(self):
        self.bad_at(1, "kind b", "kind b keep", "kind b Keeps", "kind b renew", "kind b keeps rises", "kind b keeps c")
        self.bad_at(1, "kind b keeps rise c", "kind b keeps rises c c", "kind b rises c", "kind keeps b", "b kind keeps")
        self.bad_at(1, "kind b# keeps", "kind b keeps rises # c")

    def test_names(self):
        names = ["B", "bB", "b1", "abcdefghi", "b-", "~", "1", "b_", "bb'"]
        self.bad_at(1, *[f"kind {name} keeps" for name in names])
        self.bad_at(3, *[f"sort {name}" for name in names])

    def test_names_that_stand_above(self):
        self.bad_at(1, "kind a keeps", "kind a renews rises c")
        self.bad_at(2, "kind b keeps")
        self.bad_at(4, "sort s")
        self.assertEqual(read_house(TEXT.replace("sort s", "sort a").replace("ask s", "ask a"))[1], ("a", "t"))

    def test_sort_lines(self):
        self.bad_at(3, "sort", "sort s s", "sort s keeps")
        self.bad("sort s\n" + TEXT, 0)
        self.bad("\n# kind a keeps\nsort s", 2)

    def test_where_they_may_stand(self):
        self.bad("kind a keeps\nsort s\nkind b keeps", 2)
        self.bad("kind a keeps\nsort s\nask s a wait wait\nsort t", 3)
        self.bad("kind a keeps\nsort s\nask s a wait wait\nkind b keeps", 3)
        self.bad("kind a keeps\nask s a wait wait", 1)
        self.bad("ask s a wait wait", 0)
        self.bad("\n\nask s a wait wait\n", 2)

    def test_how_many(self):
        five = "\n".join(f"kind {name} keeps" for name in "abcde")
        self.bad(five + "\nkind f keeps\nsort s", 5)
        self.bad(five + "\n\nkind a keeps\nsort s", 6)
        self.bad("kind a keeps\nsort s\nsort t\nsort u\nsort v", 4)
        self.bad(five + "\nsort s\nsort t\nsort u", 8)

    def test_ask_lines(self):
        self.bad_at(5, "ask s a wait yield oust wait yield", "ask s a wait yield oust wait yield oust wait", "ask s a")
        self.bad_at(5, "ask s a wait yield oust wait yield oust wait wait", "ask s a wait yield oust wait")
        self.bad_at(5, "ask s a wait yield oust wait yield ousts", "ask s a wait yield oust wait yield Oust")
        for at in range(6):
            words = "wait yield oust wait yield oust".split()
            words[at] = "waits"
            self.bad_at(5, " ".join(["ask", "s", "a", *words]))
        self.bad_at(5, "ask a s wait yield oust wait yield oust", "ask x a wait yield oust wait yield oust")
        self.bad_at(5, "ask s x wait yield oust wait yield oust", "ask wait yield oust wait yield oust")

    def test_order_of_ask_lines(self):
        lines = TEXT.split("\n")
        for at in range(5, 11):
            for other in range(at + 1, 11):
                swapped = list(lines)
                swapped[at], swapped[other] = lines[other], lines[at]
                self.bad("\n".join(swapped), at)
            self.bad("\n".join(lines + [lines[at]]), 11)
            self.bad("\n".join(lines[:at + 1] + [lines[at]] + lines[at + 1:]), at + 1)

    def test_rises(self):
        first = "kind a keeps rises {}\nkind b keeps\nkind c keeps\nsort s\n"
        for word in ("a", "d", "s", "rises", "keeps", "B", "abcdefghi", "1"):
            self.bad(first.format(word) + "\n", 0)
        for word in ("b", "c"):
            self.bad(first.format(word), 5)
        self.bad("kind a keeps\nkind b keeps rises a\nsort s", 1)
        self.bad("kind a keeps\nkind b keeps rises b\nsort s", 1)
        self.bad("kind a keeps rises b\nsort b\nask b a wait wait", 0)
        self.bad("kind a keeps rises b # kind b keeps\n# kind b keeps\nsort s", 0)

    def test_rises_to_what_stands_on_a_bad_line(self):
        self.bad("kind a keeps rises B\nkind B keeps\nsort s", 1)
        self.bad("kind a keeps rises b1\nkind b keeps\nsort s\nkind b1", 3)
        self.bad("kind a keeps rises b\nsort s\nkind b keeps", 2)
        self.bad("kind a keeps rises a\nkind a keeps", 1)
        self.bad("kind a keeps rises b\nx\nkind b", 1)
        self.bad("kind a keeps rises b\nkind  c keeps\nkind", 0)

    def test_the_first_bad_line(self):
        self.bad("kind a keeps\nx\nsort s\ny", 1)
        self.bad(TEXT + "\n\n\nx\ny", 13)
        self.bad("# x\n\n  \nx", 3)

    def test_a_line_lacks(self):
        for at in range(5, 10):
            self.bad(without_line(TEXT, at), at)
        self.bad(without_line(TEXT, 10), 10)
        self.bad(without_line(TEXT, 10) + "\n", 11)
        self.bad(without_line(TEXT, 10) + "\n#\n", 12)
        self.bad("", 1)
        self.bad("\n", 2)
        self.bad("#\n\n ", 3)
        self.bad("kind a keeps", 1)
        self.bad("kind a keeps\nkind b keeps\n", 3)
        self.bad("kind a keeps\nsort s", 2)
        self.bad("kind a keeps\nkind b keeps\nsort s\nsort t\nask s a wait wait wait wait", 5)

    def test_wrong(self):
        for thing in junk() + [None, b"kind", ["kind a keeps"]]:
            refused = refusal(read_house, thing)
            if isinstance(thing, str):
                self.assertIs(refused.__class__, NoText)
            else:
                self.assertEqual((refused.__class__, refused.place), (Wrong, 0))


class TestBadProgram(Reading):
    def test_lines_of_no_sort(self):
        for at in range(5):
            for line in ("x", "kind a keeps", "sort s", "ask s a wait wait", "Work", "work work", "take", "program"):
                self.bad_program(with_line(PROGRAM, at, line), at)

    def test_program_line(self):
        for line in ("program a b", "program d", "program s", "program 1", "program A", "work", "take s 1", "programs a"):
            self.bad_program(with_line(PROGRAM, 0, line), 0)
        self.bad_program(PROGRAM + "\nprogram b", 5)
        self.bad_program("program a\nprogram a\nwork", 1)
        self.bad_program("work\nprogram a", 0)
        self.bad_program("\n# program a\nwork\nprogram a", 2)

    def test_take_lines(self):
        for line in ("take s", "take s 1 1", "takes s 1", "work s 1", "take u 1", "take a 1", "take 1 s", "take 0 1", "take S 1", "take s s"):
            self.bad_program(with_line(PROGRAM, 1, line), 1)

    def test_numbers(self):
        for number in ("01", "00", "-1", "+1", "-0", "+0", "1.0", "1_0", "1e1", "0x1", "", "one", "1,0", FORTY_ONE, "0" * 40):
            self.bad_program(f"program a\ntake s {number}", 1)
        self.bad_program("program a\ntake s \u0661", 1)
        self.bad_program("program a\ntake s \u00b2", 1)
        self.bad_program(f"program a\nwork\ntake t {'9' * 5000}", 2)
        for number in ("0", "1", "9", "10", "100", FORTY, FORTY_ONE[:-1]):
            self.assertEqual(read_program(HOUSE, f"program a\ntake t {number}"), (0, ((1, int(number)),)))

    def test_a_lock_that_stands_above(self):
        self.bad_program("program a\ntake s 3\nwork\ntake s 3", 3)
        self.bad_program("program a\ntake s 3\n\ntake t 3\ntake s 4\ntake  t  3 # again", 5)
        self.assertEqual(read_program(HOUSE, "program a\nwork\nwork")[1], ("work", "work"))

    def test_a_line_lacks(self):
        self.bad_program("", 1)
        self.bad_program("\n\n", 3)
        self.bad_program("program a", 1)
        self.bad_program("program a\n", 2)
        self.bad_program("#\nprogram c # work\n# work\n", 4)

    def test_the_first_bad_line(self):
        self.bad_program("program a\ntake s 1\ntake s 1\nx", 2)
        self.bad_program("program x\nx", 0)

    def test_wrong(self):
        for thing in junk():
            if not isinstance(thing, str):
                refused = refusal(read_program, HOUSE, thing)
                self.assertEqual((refused.__class__, refused.place), (Wrong, 1))
        houses = list(changed_leaves(HOUSE, spoilt_leaf)) + list(changed_tuples(HOUSE, spoilt_tuples))
        right = ((("a", True, 0),), ("s",), (((("wait", "yield"),),),))
        for thing in [one for one in junk() if one != right] + houses:
            for text in (PROGRAM, "", None, [], 7):
                refused = refusal(read_program, thing, text)
                self.assertEqual((refused.__class__, refused.place), (Wrong, 0))

    def test_objects_of_the_package(self):
        for thing in (NoKind(["a"]), NoText, Wrong(0)):
            self.assertEqual(refusal(read_house, thing).place, 0)
            self.assertEqual(refusal(read_program, thing, PROGRAM).place, 0)
            self.assertEqual(refusal(read_program, HOUSE, thing).place, 1)


if __name__ == "__main__":
    unittest.main()
