"""Reading what a text shows: a house, or a program of a house."""

from comesthrough.errors import NoText, Wrong
from comesthrough.forms import is_house, is_name, is_word
from comesthrough.houses import KINDS_MOST, SORTS_MOST

DIGITS_MOST = 40


def read_house(text):
    if not isinstance(text, str):
        raise Wrong(0)
    rows = _rows_of(text)
    heads = {"kind": [], "sort": [], "ask": []}
    for at, words in enumerate(rows):
        if words:
            if not _is_house_line(words, heads, rows[at + 1:]):
                raise NoText(at)
            heads[words[0]].append(words)
    kinds, sorts, asks = heads["kind"], heads["sort"], heads["ask"]
    if not sorts or len(asks) < len(kinds) * len(sorts):
        raise NoText(len(rows))
    return _house_shown(kinds, sorts, asks)


def read_program(house, text):
    if not is_house(house):
        raise Wrong(0)
    if not isinstance(text, str):
        raise Wrong(1)
    rows = _rows_of(text)
    kind = None
    deeds = []
    for at, words in enumerate(rows):
        if words and kind is None:
            kind = _kind_shown(house, words)
            if kind is None:
                raise NoText(at)
        elif words:
            deed = _deed_shown(house, words)
            if deed is None or (deed != "work" and deed in deeds):
                raise NoText(at)
            deeds.append(deed)
    if not deeds:
        raise NoText(len(rows))
    return (kind, tuple(deeds))


def words_of_line(line):
    """The words of a line, without what a `#` leaves out."""
    # Only a blank stands between words: any other sign, a tab too, is a sign of a word.
    return [word for word in line.partition("#")[0].split(" ") if word]


def is_number(word):
    """Tell whether a word is an integer from 0 on as Python shows it, of at most forty digits."""
    # isdigit() lets signs by that are no digits of Python's own.
    if not (1 <= len(word) <= DIGITS_MOST and all([sign in "0123456789" for sign in word])):
        return False
    return word == "0" or not word.startswith("0")


def _rows_of(text):
    return [words_of_line(line) for line in text.split("\n")]


def _is_house_line(words, heads, later):
    """Tell whether a line may stand behind those that heads has, and ahead of the later ones."""
    kinds, sorts, asks = heads["kind"], heads["sort"], heads["ask"]
    if words[0] == "kind":
        return not sorts and len(kinds) < KINDS_MOST and _is_kind_line(words, kinds, later)
    if words[0] == "sort":
        return len(kinds) >= 1 and not asks and len(sorts) < SORTS_MOST and _is_sort_line(words, sorts)
    if words[0] == "ask":
        return _is_ask_line(words, kinds, sorts, len(asks))
    return False


def _is_kind_line(words, kinds, later):
    if len(words) not in (3, 5) or not _is_new_name(words[1], kinds) or words[2] not in ("keeps", "renews"):
        return False
    return len(words) == 3 or (words[3] == "rises" and any([row[:2] == ["kind", words[4]] for row in later]))


def _is_sort_line(words, sorts):
    return len(words) == 2 and _is_new_name(words[1], sorts)


def _is_new_name(word, above):
    return is_name(word) and word not in [words[1] for words in above]


def _is_ask_line(words, kinds, sorts, at):
    """Tell whether a line is the ask line with this index; as long as there is no sort, there is none."""
    if at >= len(kinds) * len(sorts) or len(words) != 3 + 2 * len(kinds):
        return False
    sort, asker = divmod(at, len(kinds))
    return words[1] == sorts[sort][1] and words[2] == kinds[asker][1] and all([is_word(word) for word in words[3:]])


def _house_shown(kinds, sorts, asks):
    names = [words[1] for words in kinds]
    many = len(names)
    rises = [words[4] if len(words) == 5 else words[1] for words in kinds]
    keeps = [words[2] == "keeps" for words in kinds]
    rows = [tuple([tuple(words[at:at + 2]) for at in range(3, len(words), 2)]) for words in asks]
    judge = [tuple(rows[at:at + many]) for at in range(0, len(rows), many)]
    shown = [(names[kind], keeps[kind], names.index(rises[kind])) for kind in range(many)]
    return (tuple(shown), tuple([words[1] for words in sorts]), tuple(judge))


def _kind_shown(house, words):
    """The kind that a program line shows, or None."""
    names = [kind[0] for kind in house[0]]
    if len(words) == 2 and words[0] == "program" and words[1] in names:
        return names.index(words[1])
    return None


def _deed_shown(house, words):
    """The deed that a line shows, or None."""
    if words == ["work"]:
        return "work"
    if len(words) == 3 and words[0] == "take" and words[1] in house[1] and is_number(words[2]):
        return (house[1].index(words[1]), int(words[2]))
    return None
