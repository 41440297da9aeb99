"""A desk at which a book is led by lines of words."""

from comesthrough.blame import blamed
from comesthrough.book import Book
from comesthrough.errors import NoCommand, ThroughError, Wrong
from comesthrough.forms import is_name, is_word
from comesthrough.naming import through_kinds
from comesthrough.reader import read_house, words_of_line
from comesthrough.texts import show_house

AGES = ("elder", "younger")


def _put_word(book, told):
    sort, asker, holder, side, word = told
    book.put_word((sort, asker, holder, side), word)


def _keep(book, told):
    book.put_keeps(told[0], True)


def _renew(book, told):
    book.put_keeps(told[0], False)


def _rise(book, told):
    book.put_rise(told[0], told[1])


def _add(book, told):
    book.add_kind(told[0], told[1])


def _drop(book, told):
    book.drop_kind(told[0])


def _wish_through(book, told):
    book.wish(("through", book.house_now()[0][told[0]][0]))


def _wish_open(book, told):
    book.wish(("open", book.house_now()[0][told[0]][0]))


def _wish_meek(book, _):
    book.wish(("meek",))


def _unwish(book, told):
    book.unwish(told[0])


def _undo(book, _):
    book.undo()


def _redo(book, _):
    book.redo()


def _house_lines(book, _):
    return show_house(book.house_now()).split("\n")


def _wish_lines(book, _):
    return [" ".join(wish) for wish in book.wishes_now()]


def _held_names(book, _):
    return _names_held(book.house_now(), False)


def _open_held_names(book, _):
    return _names_held(book.house_now(), True)


def _blame_lines(book, told):
    house = book.house_now()
    lines = []
    for (sort, asker, holder, side), words in blamed(house, told[0]):
        names = [house[1][sort], house[0][asker][0], house[0][holder][0], AGES[side]]
        lines.append(" ".join(names + list(words)))
    return lines


# The forms of the commands; a word in capitals stands for words of its own.
CHANGING = {
    "put SORT KIND KIND AGE WORD": _put_word,
    "keeps KIND": _keep,
    "renews KIND": _renew,
    "rise KIND KIND": _rise,
    "add NAME like KIND": _add,
    "drop KIND": _drop,
    "wish through KIND": _wish_through,
    "wish open KIND": _wish_open,
    "wish meek": _wish_meek,
    "unwish N": _unwish,
    "undo": _undo,
    "redo": _redo,
}
SHOWING = {
    "house": _house_lines,
    "wishes": _wish_lines,
    "held": _held_names,
    "held open": _open_held_names,
    "blame KIND": _blame_lines,
}


class Desk:
    """A book of a house that was read, and the commands by which it is led."""

    def __init__(self, text):
        self._book = Book(read_house(text))

    def execute(self, line):
        if not isinstance(line, str):
            raise Wrong(0)
        words = words_of_line(line)
        for form in SHOWING:
            told = _told_by(self._book, form, words)
            if told is not None:
                show = SHOWING[form]
                return show(self._book, told)
        for form in CHANGING:
            told = _told_by(self._book, form, words)
            if told is not None:
                return self._done(form, told)
        raise NoCommand()

    def book(self):
        return self._book.twin()

    def _done(self, form, told):
        change = CHANGING[form]
        try:
            change(self._book, told)
        except ThroughError:
            return ["refused"]
        return ["done"]


def _names_held(house, is_open):
    """The names of the kinds that do not come through."""
    through = through_kinds(house, is_open)
    return [told[0] for kind, told in enumerate(house[0]) if kind not in through]


def _told_by(book, form, words):
    """The list of what words say where a form has words in capitals; None if they are not of this form."""
    parts = form.split(" ")
    if len(words) != len(parts):
        return None
    told = []
    for part, word in zip(parts, words):
        if part.isupper():
            thing = _thing_told(book, part, word)
            if thing is None:
                return None
            told.append(thing)
        elif part != word:
            return None
    return told


def _thing_told(book, part, word):
    """What a word says in the place of a word in capitals, or None."""
    if part == "NAME":
        return word if is_name(word) else None
    if part == "WORD":
        return word if is_word(word) else None
    names = _names_for(book, part)
    return names.index(word) if word in names else None


def _names_for(book, part):
    """The words that tell the indexes from 0 on in the place of a word in capitals."""
    if part == "SORT":
        return list(book.house_now()[1])
    if part == "AGE":
        return list(AGES)
    if part == "N":
        return [str(index) for index in range(len(book.wishes_now()))]
    return [kind[0] for kind in book.house_now()[0]]
