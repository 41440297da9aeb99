"""[70]: a desk at which a book is led by lines."""

import random
import re
import unittest

from comesthrough.blame import blamed
from comesthrough.book import Book
from comesthrough.desk import Desk
from comesthrough.errors import NoCommand, NoText, Nothing, ThroughError, Wrong
from comesthrough.hall import Hall
from comesthrough.houses import with_keeps, with_kind, with_rise, with_word, without_kind
from comesthrough.reader import read_house
from comesthrough.texts import show_house
from tests.samples import NAMES, WORDS, aged_house, aged_houses, drawn_house, drawn_houses, junk, refusal
from tests.test_texts import loosened
from tests.throughmodel import model_through

TEXT = "kind a keeps\nkind b renews\nsort s\nsort t\n" + "\n".join(
    f"ask {sort} {kind} oust wait oust wait" for sort in "st" for kind in "ab"
)
HOUSE = read_house(TEXT)
SIDES = {"elder": 0, "younger": 1}


def told_of(book):
    return (book.house_now(), book.wishes_now())


def whole_past(book):
    """What a book is, and all that it was and can be again."""
    book = book.twin()
    now = told_of(book)
    ahead, behind = [], []
    while refusal(book.redo) is None:
        ahead.append(told_of(book))
    for _ in ahead:
        book.undo()
    while refusal(book.undo) is None:
        behind.append(told_of(book))
    return (now, ahead, behind)


def names_of(house):
    return [kind[0] for kind in house[0]]


def plain_words(line):
    return [word for word in re.split(" +", line.split("#")[0]) if word]


def plain_answer(book, line):
    """The answer to a line, a Book being led by it; None if it is no command."""
    house = book.house_now()
    kinds, sorts = names_of(house), list(house[1])
    words = plain_words(line)
    shown = plain_shown(book, words)
    if shown is not None:
        return shown
    match words:
        case ["put", sort, asker, holder, side, word]:
            fits = sort in sorts and asker in kinds and holder in kinds and side in SIDES and word in WORDS
            call = lambda: book.put_word(
                (sorts.index(sort), kinds.index(asker), kinds.index(holder), SIDES[side]), word
            )
        case [("keeps" | "renews") as how, kind]:
            fits, call = kind in kinds, lambda: book.put_keeps(kinds.index(kind), how == "keeps")
        case ["rise", kind, rise]:
            fits, call = {kind, rise} <= set(kinds), lambda: book.put_rise(kinds.index(kind), kinds.index(rise))
        case ["add", name, "like", kind]:
            fits = kind in kinds and re.fullmatch("[a-z]{1,8}", name) and "\n" not in name
            call = lambda: book.add_kind(name, kinds.index(kind))
        case ["drop", kind]:
            fits, call = kind in kinds, lambda: book.drop_kind(kinds.index(kind))
        case ["wish", ("through" | "open") as how, kind]:
            fits, call = kind in kinds, lambda: book.wish((how, kind))
        case ["wish", "meek"]:
            fits, call = True, lambda: book.wish(("meek",))
        case ["unwish", number]:
            fits = number in [str(at) for at in range(len(book.wishes_now()))]
            call = lambda: book.unwish(int(number))
        case ["undo"]:
            fits, call = True, book.undo
        case ["redo"]:
            fits, call = True, book.redo
        case _:
            return None
    if not fits:
        return None
    return ["refused"] if refusal(call) else ["done"]


def plain_shown(book, words):
    """The lines by which a command shows something, None for what is no such command."""
    house = book.house_now()
    kinds = names_of(house)
    match words:
        case ["house"]:
            return show_house(house).split("\n")
        case ["wishes"]:
            return [" ".join(wish) for wish in book.wishes_now()]
        case ["held"] | ["held", "open"]:
            through = model_through(house, len(words) == 2)
            return [name for at, name in enumerate(kinds) if at not in through]
        case ["blame", name] if name in kinds:
            return [
                f"{house[1][sort]} {kinds[asker]} {kinds[holder]} {'elder' if side == 0 else 'younger'} {' '.join(told)}"
                for (sort, asker, holder, side), told in blamed(house, kinds.index(name))
            ]
    return None


def drawn_line(draw, book):
    """A line that is a command, in most cases."""
    house, wishes = told_of(book)
    kinds, sorts = names_of(house), list(house[1])
    one, other = draw.choice(kinds), draw.choice(kinds)
    put = f"put {draw.choice(sorts)} {one} {other} {draw.choice(list(SIDES))} {draw.choice(WORDS)}"
    rows = [
        [put] * 8, [f"keeps {one}", f"renews {one}"], [f"rise {one} {other}"], [f"add {draw.choice(NAMES)} like {one}"],
        [f"drop {one}"], [f"wish through {one}", f"wish open {one}", "wish meek"] * 3,
        [f"unwish {draw.randint(0, len(wishes))}"], ["undo", "redo"] * 4, ["house", "wishes", "held", "held open"],
        [f"blame {one}"],
    ]
    return draw.choice([line for row in rows for line in row])


def spoilt_line(draw, line):
    """A line with a word more, less, exchanged, written otherwise."""
    words = line.split(" ")
    at = draw.randrange(len(words))
    others = [
        words[:at] + words[at + 1:], words + words[-1:], words[:at] + ["zzz"] + words[at + 1:], words + ["0"],
        words[:at] + [words[at].upper()] + words[at + 1:], words[:at] + [words[at] + "\n"] + words[at + 1:],
        words[::-1], words[:at] + ["\n" + words[at]] + words[at + 1:], words[:at] + ["0" + words[at]] + words[at + 1:],
        words[:at] + ["+" + words[at]] + words[at + 1:], words[:at] + ["-1"] + words[at + 1:], words[:at] + ["~"] + words[at:],
        words[:at] + [words[at] + "#"] + words[at + 1:], words[:at] + ["\n"] + words[at:],
        words[:at] + [draw.choice(["a", "s", "elder", "wait", "like", "open", "meek", "0"])] + words[at + 1:],
    ]
    return " ".join(draw.choice(others))


def loosened_line(draw, line):
    """The same line with more blanks and a remark."""
    words = (" " * draw.randint(1, 3)).join(line.split(" "))
    return " " * draw.randint(0, 2) + words + draw.choice(["", "", "  ", "#", " # undo", "#\n", "  #a\nb#\n"])


class TestExecute(unittest.TestCase):
    def test_the_example(self):
        desk = Desk("kind a keeps\nsort s\nask s a oust wait")
        lines = ["wish through a", "put s a a elder wait", "put s a a younger yield", "wishes", "held"]
        told = [["done"], ["refused"], ["done"], ["through a"], []]
        self.assertEqual([desk.execute(line) for line in lines], told)
        lines = ["unwish 0", "put s a a elder yield", "held", "blame a"]
        told = [["done"], ["done"], ["a"], ["s a a elder oust wait", "s a a younger oust wait"]]
        self.assertEqual([desk.execute(line) for line in lines], told)

    def test_long_rows_of_lines(self):
        draw = random.Random(760)
        seen = {}
        for number in range(120):
            house = drawn_house(draw, kinds=draw.randint(1, 3), sorts=draw.randint(1, 2))
            if number % 2:
                house = aged_house(draw, draw.randint(1, 4))
            desk, book = Desk(show_house(house)), Book(house)
            for _ in range(50):
                line = drawn_line(draw, book)
                if draw.random() < 0.2:
                    line = spoilt_line(draw, line)
                line = loosened_line(draw, line)
                self.ask(desk, book, line, seen)
            self.assertEqual(whole_past(desk.book()), whole_past(book))
        commands = ["put", "keeps", "renews", "rise", "add", "drop", "wish", "unwish", "undo", "redo"]
        for command in commands:
            self.assertGreater(seen.get((command, "done"), 0), 10, (command, seen))
        for command in ("put", "rise", "add", "drop", "wish", "undo", "redo"):
            self.assertGreater(seen.get((command, "refused"), 0), 10, (command, seen))
        for command in commands + ["house", "wishes", "held", "blame"]:
            self.assertGreater(seen.get((command, None), 0), 3, (command, seen))
        for command in ("house", "wishes", "held", "blame"):
            self.assertGreater(seen.get((command, "shown"), 0), 10, (command, seen))

    def ask(self, desk, book, line, seen):
        before = told_of(desk.book())
        wanted = plain_answer(book, line)
        error = None
        try:
            answer = desk.execute(line)
        except ThroughError as raised:
            error = raised
        if wanted is None:
            self.assertIsInstance(error, NoCommand, repr(line))
        else:
            self.assertIsNone(error, repr(line))
            self.assertEqual(answer, wanted, repr(line))
        if wanted is None or wanted == ["refused"]:
            self.assertEqual(told_of(desk.book()), before)
        self.assertEqual(told_of(desk.book()), told_of(book))
        words = plain_words(line)
        if words:
            which = None if wanted is None else wanted[0] if wanted in (["done"], ["refused"]) else "shown"
            seen[words[0], which] = seen.get((words[0], which), 0) + 1

    def test_each_command_does_what_the_book_does(self):
        place = (1, 0, 1, 1)
        for lines, house, wishes in (
            (["put t a b younger yield"], with_word(HOUSE, place, "yield"), []),
            (["put t a b elder wait"], with_word(HOUSE, (1, 0, 1, 0), "wait"), []),
            (["put s b a younger oust"], with_word(HOUSE, (0, 1, 0, 1), "oust"), []),
            (["renews a"], with_keeps(HOUSE, 0, False), []), (["keeps b"], with_keeps(HOUSE, 1, True), []),
            (["keeps a"], HOUSE, []), (["rise a b"], with_rise(HOUSE, 0, 1), []), (["rise b b"], HOUSE, []),
            (["rise a b", "rise a a"], HOUSE, []), (["add like like b"], with_kind(HOUSE, "like", 1), []),
            (["add c like a", "add d like c"], with_kind(with_kind(HOUSE, "c", 0), "d", 2), []),
            (["drop a"], without_kind(HOUSE, 0), []), (["wish through a"], HOUSE, [("through", "a")]),
            (["wish open a", "wish open a", "wish through a"], HOUSE, [("open", "a")] * 2 + [("through", "a")]),
            (["wish open a", "wish through a", "unwish 0"], HOUSE, [("through", "a")]),
            (["drop a", "undo"], HOUSE, []), (["drop a", "undo", "redo"], without_kind(HOUSE, 0), []),
        ):
            desk = Desk(TEXT)
            self.assertEqual([desk.execute(line) for line in lines], [["done"]] * len(lines), lines)
            self.assertEqual(told_of(desk.book()), (house, wishes), lines)
            self.assertEqual(len(whole_past(desk.book())[2]), sum(line != "undo" for line in lines) - lines.count("undo"))

    def test_refused(self):
        for lines in (
            ["rise b a"], ["undo"], ["redo"], ["wish meek"], ["add a like b"], ["drop a", "drop b"], ["drop a", "undo", "undo"],
            ["add c like a", "add d like a", "add e like a", "add f like a"], ["wish open a", "drop a"],
            ["wish open a", "put s a a elder wait"], ["drop b", "undo", "keeps a", "redo"],
            ["put s a a elder wait", "put s a a younger wait", "wish through a"],
        ):
            desk = Desk(TEXT)
            self.assertEqual([desk.execute(line) for line in lines], [["done"]] * (len(lines) - 1) + [["refused"]], lines)
            before = whole_past(desk.book())
            self.assertEqual(desk.execute(lines[-1]), ["refused"])
            self.assertEqual(whole_past(desk.book()), before)

    def test_what_is_shown(self):
        for house in drawn_houses(761, 15) + aged_houses(762, 40):
            desk = Desk(show_house(house))
            self.assertEqual(desk.execute("house"), show_house(house).split("\n"))
            self.assertEqual(desk.execute("wishes"), [])
            for line in ["held", "held open"] + [f"blame {name}" for name in names_of(house)]:
                wanted = plain_answer(Book(house), line)
                self.assertEqual(desk.execute(line), wanted)
                desk.execute(line).append("more")
                self.assertEqual(desk.execute(line), wanted)
            self.assertEqual(desk.execute(" wish  meek "), plain_answer(Book(house), "wish meek"))

    def test_the_wishes(self):
        desk = Desk("kind a keeps\nsort s\nask s a wait yield")
        for line in ("wish meek", "wish through a", "wish meek"):
            self.assertEqual(desk.execute(line), ["done"])
        self.assertEqual(desk.execute("wishes"), ["meek", "through a", "meek"])
        desk.execute("wishes").clear()
        self.assertEqual(desk.execute("wishes"), ["meek", "through a", "meek"])
        self.assertEqual(desk.execute("wish open a"), ["refused"])
        self.assertEqual(desk.execute("unwish 1"), ["done"])
        self.assertEqual(desk.execute("wishes"), ["meek", "meek"])

    def test_names_that_are_words_of_commands(self):
        desk = Desk("kind open keeps\nkind meek keeps\nsort like\nask like open oust wait oust wait\nask like meek oust wait oust wait")
        for line in ("wish open open", "wish through meek", "add like like meek", "put like like open elder oust", "drop like"):
            self.assertEqual(desk.execute(line), ["done"], line)
        self.assertEqual(desk.execute("wishes"), ["open open", "through meek"])
        self.assertEqual(desk.execute("held open"), [])
        self.assertEqual(desk.execute("blame open"), [])


class TestNoCommand(unittest.TestCase):
    def test_other_lines(self):
        desk = Desk(TEXT)
        desk.execute("wish open a")
        before = whole_past(desk.book())
        lines = [
            "", " ", "#", "  # undo", "#undo", "\n", "\n\n", " \n ", "undo\n", "\nundo", "undo \n", "\n undo", "un\ndo", "undo undo",
            "undo 0", "redo redo", "Undo", "UNDO", "undo;", "house house", "houses", "hous", "wish", "wishes wishes", "wishes a",
            "wish a", "wish through", "wish through c", "wish through a b", "wish open", "wish open c", "wish meek a", "wish Meek",
            "wish closed a", "wish through through", "unwish", "unwish 00", "unwish 01", "unwish -0", "unwish +0", "unwish 1",
            "unwish -1", "unwish 0 0", "unwish a", "unwish 0.", "unwish ~", "unwish 0\n", "unwish " + "0" * 41, "unwish " + "9" * 41,
            "held closed", "held a", "held open a", "held open open", "blame", "blame c", "blame a b", "blame a a", "blame s",
            "keeps", "keeps c", "keeps a b", "keeps s", "renews", "renews c", "renews a a", "keep a", "rise", "rise a",
            "rise a c", "rise c a", "rise a b b", "rise a s", "add", "add c", "add c like", "add c like c", "add c like a a",
            "add C like a", "add abcdefghi like a", "add c as a", "add c Like a", "add c1 like a", "add c\n like a", "add a a",
            "add like a", "add 0 like a", "drop", "drop c", "drop a b", "drop s", "drop a\n", "put", "put s a b elder",
            "put s a b wait", "put s a b elder wait wait", "put a s b elder wait", "put s a c elder wait", "put s c a elder wait",
            "put u a b elder wait", "put s a b older wait", "put s a b elder waits", "put s a b 0 wait", "put s a b elder elder",
            "put s a b wait elder", "put s a b elder\nwait", "put s a b elder wait\n", "put 0 0 0 0 wait", "sort u", "kind c keeps",
            "ask s a oust wait oust wait", "take s 0", "work", "program a", "book", "twin", "execute", "help", "\tundo",
            "KIND", "wish through KIND", "keeps KIND", "unwish N", "put SORT KIND KIND AGE WORD", "add NAME like KIND",
        ]
        for line in lines:
            error = refusal(desk.execute, line)
            self.assertEqual(error.__class__, NoCommand, repr(line))
            self.assertEqual(vars(error), {})
        self.assertEqual(whole_past(desk.book()), before)

    def test_remarks_and_blanks(self):
        for line in ("undo", " undo", "undo ", "  undo   ", "undo#", "undo # redo", "undo#\n", "undo #\nredo", "undo ##\n#\n"):
            desk = Desk(TEXT)
            desk.execute("keeps   b#\n")
            self.assertEqual(desk.execute(line), ["done"], repr(line))
            self.assertEqual(desk.book().house_now(), HOUSE)
        desk = Desk(TEXT)
        self.assertEqual(desk.execute("   put  t a   b younger  yield # put\nput"), ["done"])
        self.assertEqual(desk.book().house_now(), with_word(HOUSE, (1, 0, 1, 1), "yield"))

    def test_spoilt_lines(self):
        draw = random.Random(763)
        for _ in range(40):
            house = aged_house(draw, draw.randint(1, 3))
            desk, book = Desk(show_house(house)), Book(house)
            for _ in range(40):
                line = spoilt_line(draw, drawn_line(draw, book))
                wanted = plain_answer(book, line)
                if wanted is None:
                    self.assertIsInstance(refusal(desk.execute, line), NoCommand, repr(line))
                else:
                    self.assertEqual(desk.execute(line), wanted, repr(line))
                self.assertEqual(told_of(desk.book()), told_of(book))

    def test_wrong(self):
        desk = Desk(TEXT)
        desk.execute("keeps b")
        for thing in junk() + [Hall(HOUSE), Book(HOUSE), desk, ["undo"], ("undo",), {"undo": "undo"}, b"undo"]:
            error = refusal(desk.execute, thing)
            if isinstance(thing, str):
                self.assertIsInstance(error, NoCommand)
            else:
                self.assertEqual((error.__class__, error.place), (Wrong, 0))
        self.assertEqual(desk.book().house_now(), with_keeps(HOUSE, 1, True))


class TestDesk(unittest.TestCase):
    def test_texts(self):
        draw = random.Random(764)
        for house in drawn_houses(765, 40):
            text = loosened(draw, show_house(house))
            self.assertEqual(told_of(Desk(text).book()), (house, []))
            self.assertEqual(Desk(text).execute("house"), show_house(house).split("\n"))
            lines = text.split("\n")
            for at in range(len(lines)):
                for other in (lines[:at] + lines[at + 1:], lines[:at] + ["kind"] + lines[at:], lines[:at] + lines[at:at + 1] * 2):
                    wanted = refusal(read_house, "\n".join(other))
                    error = refusal(Desk, "\n".join(other))
                    self.assertEqual(error and (error.__class__, error.line), wanted and (NoText, wanted.line))

    def test_bad_lines(self):
        for text, line in (("", 1), ("kind a keeps", 1), ("kind a keeps\nsort s\n", 3), (TEXT + "\nsort u", 8), ("kind A keeps", 0)):
            error = refusal(Desk, text)
            self.assertEqual((error.__class__, error.line), (NoText, line))

    def test_wrong(self):
        for thing in junk() + [HOUSE, Book(HOUSE), Hall(HOUSE), [TEXT]]:
            error = refusal(Desk, thing)
            if isinstance(thing, str):
                self.assertIsInstance(error, NoText)
            else:
                self.assertEqual((error.__class__, error.place), (Wrong, 0))

    def test_the_book_is_a_twin(self):
        desk = Desk(TEXT)
        for line in ("keeps b", "wish open a", "drop b", "undo"):
            desk.execute(line)
        book = desk.book()
        self.assertIsInstance(book, Book)
        self.assertEqual(told_of(book), (with_keeps(HOUSE, 1, True), [("open", "a")]))
        book.redo()
        self.assertEqual(book.house_now(), without_kind(with_keeps(HOUSE, 1, True), 1))
        self.assertEqual(desk.book().house_now(), with_keeps(HOUSE, 1, True))
        book.unwish(0)
        book.put_keeps(0, False)
        self.assertEqual(desk.execute("wishes"), ["open a"])
        self.assertEqual(desk.execute("redo"), ["done"])
        self.assertEqual(desk.execute("house"), show_house(without_kind(with_keeps(HOUSE, 1, True), 1)).split("\n"))
        other = desk.book()
        for _ in range(3):
            self.assertIsNone(other.undo())
        self.assertEqual(refusal(other.undo).__class__, Nothing)
        self.assertEqual(told_of(other), (HOUSE, []))
        desk.execute("undo")
        self.assertEqual(told_of(other), (HOUSE, []))


if __name__ == "__main__":
    unittest.main()
