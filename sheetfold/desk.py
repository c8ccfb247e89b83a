"""A desk that keeps sheets and solids by names and answers rows of words (points 34 and 35)."""

from sheetfold.bendings import bendings
from sheetfold.drawings import sheet_read, sheet_text
from sheetfold.errors import NoName, NoRow, NotClosed
from sheetfold.folding import folded
from sheetfold.likes import same_sheets, same_solids
from sheetfold.papers import closing_of
from sheetfold.skins import skin_joins
from sheetfold.slits import laid
from sheetfold.solids import solid_of
from sheetfold.squares import skin_of
from sheetfold.trees import count_trees

# Of each row: how many names stand behind its first word, and how many words at least and at most behind these.
FORMS = {
    "sheet": (1, 1, 1),
    "solid": (1, 1, 60),
    "drop": (1, 0, 0),
    "show": (1, 0, 0),
    "fold": (1, 0, 0),
    "make": (2, 0, 0),
    "skin": (1, 0, 0),
    "trees": (1, 0, 0),
    "bends": (1, 0, 60),
    "lay": (2, 0, 100),
    "same": (2, 0, 0),
}
ASKED_OF_SHEETS = ("fold", "make", "bends")
ASKED_OF_SOLIDS = ("skin", "trees", "lay")
LETTERS = "abcdefghijklmnopqrstuvwxyz"
FIGURES = "0123456789"


def row_of(thing):
    """A row as its first word, the list of its names and the list of what the words behind these tell."""
    words = thing.split(" ") if isinstance(thing, str) else [""]
    if words[0] not in FORMS:
        raise NoRow("no row begins so")
    form = FORMS[words[0]]
    names = words[1:1 + form[0]]
    behind = words[1 + form[0]:]
    if len(names) < form[0] or not form[1] <= len(behind) <= form[2]:
        raise NoRow("the row has too few or too many words")
    if not all([is_written(name, LETTERS, 8) for name in names]):
        raise NoRow("a name has one to eight small letters")
    return (words[0], names, [word_read(words[0], word) for word in behind])


def is_written(word, signs, most):
    """Whether the word has one sign at least, at most so many, and these signs alone."""
    return 1 <= len(word) <= most and all([sign in signs for sign in word])


def word_read(first, word):
    """What a word behind the names tells in a row with this first word."""
    if first == "solid":
        return tuple([number_read(part) for part in parts_of(word, ",", 3)])
    if first == "bends":
        return place_read(word)
    if first == "lay":
        return tuple([place_read(part) for part in parts_of(word, "-", 2)])
    if word == "":
        raise NoRow("a word has one sign at least")
    return word


def parts_of(word, between, count):
    parts = word.split(between)
    if len(parts) != count:
        raise NoRow("a cube has three numbers, and a pair two")
    return parts


def number_read(word):
    figures = word[1:] if word.startswith("-") else word
    if word != "0" and (not is_written(figures, FIGURES, 6) or figures.startswith("0")):
        raise NoRow("a number is 0, or has one to six figures, the first no 0")
    return int(word)


def place_read(word):
    if word != "0" and (not is_written(word, FIGURES, 2) or word.startswith("0")):
        raise NoRow("such a number has one or two figures, no 0 ahead of another")
    return int(word)


def is_sheet(thing):
    # A sheet is a tuple of two lists, a solid a list of cubes.
    return isinstance(thing, tuple)


def solid_made(sheet):
    told = closing_of(sheet)
    if told is None or told[0] != "closed":
        raise NotClosed("the sheet is not folded and closed")
    return solid_of(told[1])


def same_answer(one, other):
    if is_sheet(one) != is_sheet(other):
        raise NoName("one is a sheet and one a solid")
    told = same_sheets(one, other) if is_sheet(one) else same_solids(one, other)
    return "yes" if told[0] == "same" else "no"


def answer_of(first, thing, told):
    """The answer to a row that asks of one thing and keeps nothing."""
    if first == "show":
        return sheet_text(thing) if is_sheet(thing) else cube_words(thing)
    if first == "fold":
        return fold_answer(thing)
    if first == "skin":
        return str(len(skin_of(thing)))
    if first == "trees":
        return str(count_trees(len(skin_of(thing)), [(i, j) for i, j, bend in skin_joins(thing)]))
    return str(len(bendings(thing, told)[0]))


def cube_words(cubes):
    return " ".join([",".join([str(number) for number in cube]) for cube in cubes])


def fold_answer(sheet):
    told = folded(sheet)
    if told[0] == "ring":
        return "ring"
    if told[0] == "clash":
        return meeting_words(told)
    end = closing_of(sheet)
    return "closed " + cube_words(end[1]) if end[0] == "closed" else "open"


def meeting_words(told):
    """A clash or a lap in words."""
    return " ".join([str(part) for part in told])


class Desk:
    """What is kept is kept by the desk alone: it is told nothing but texts, and tells nothing but texts."""

    def __init__(self):
        self.kept = {}

    def names(self):
        return sorted(self.kept)

    def tell(self, thing):
        row = row_of(thing)
        first = row[0]
        names = row[1]
        if first == "sheet":
            return self.keep(names[0], sheet_read(row[2][0]))
        if first == "solid":
            return self.keep(names[0], solid_of(row[2]))
        asked = self.kept_for(first, names[-1])
        if first == "same":
            return same_answer(self.kept_for(first, names[0]), asked)
        if first == "drop":
            self.kept.pop(names[0])
            return "dropped"
        if first == "make":
            return self.keep(names[0], solid_made(asked))
        if first == "lay":
            return self.keep_laid(names[0], laid(asked, row[2]))
        return answer_of(first, asked, row[2])

    def kept_for(self, first, name):
        """The thing of this name, if a row with this first word may ask of it."""
        if name not in self.kept:
            raise NoName("nothing is kept by this name")
        thing = self.kept[name]
        if first in (ASKED_OF_SOLIDS if is_sheet(thing) else ASKED_OF_SHEETS):
            raise NoName("what is kept by this name is of the other kind")
        return thing

    def keep(self, name, thing):
        self.kept[name] = thing
        count = len(thing[0]) if is_sheet(thing) else len(thing)
        return f"kept {count}"

    def keep_laid(self, name, told):
        if told[0] == "lap":
            return meeting_words(told)
        return self.keep(name, told[1])
