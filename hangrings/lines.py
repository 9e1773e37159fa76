"""The lines that a desk is told, and what their words stand for."""

from hangrings.bodies import is_name
from hangrings.errors import NoLine, NoText
from hangrings.texts import most_figures, read_four, read_point, read_setting, read_way, read_whole

# What stands behind each first word: a name to keep by, or "kept" for one by
# which a four has to be kept already, and so on.
FORMS = {
    "keep": ("name", "four"),
    "then": ("name", "kept", "kept"),
    "back": ("name", "kept"),
    "half": ("name", "kept"),
    "names": (),
    "show": ("kept",),
    "axis": ("kept",),
    "rest": ("kept",),
    "comes": ("kept",),
    "turn": ("kept", "point"),
    "parted": ("kept", "way"),
    "hang": ("hanger", "setting", "setting", "setting"),
    "set": ("hanger", "kept"),
    "led": ("way", "way"),
    "kept": ("kept",),
    "step": ("kept", "kept"),
    "room": ("kept",),
    "own": ("kept",),
    "mark": ("name",),
    "to": ("name",),
    "undo": (),
    "redo": (),
    "stand": (),
    "path": (),
    "joint": ("way", "point", "setting"),
    "off": (),
    "bend": ("joint", "setting"),
    "lead": ("joint", "point"),
    "unbend": (),
    "rebend": (),
    "tip": (),
    "reach": ("joint", "point"),
}
# How many words a thing has, where it isn't one.
WIDTHS = {"four": 4, "way": 3, "point": 3}
MOST_NAMES = 6
GREATEST_JOINT = 99
MOST_FIGURES = 30


def refuse_no_line(holds, why):
    if not holds:
        raise NoLine(why)


def form_of(words):
    if words[0] == "group":
        names = len(words) - 1
        refuse_no_line(1 <= names and names <= MOST_NAMES, "one to six names stand behind group")
        return ("kept",) * names
    refuse_no_line(words[0] in FORMS, "no line begins with this word")
    return FORMS[words[0]]


def read_name(text):
    refuse_no_line(is_name(text), "a name is one to eight small letters a to z")
    return text


def read_hanger(text):
    refuse_no_line(text != "", "a hanger is a word of one sign or more")
    return text


def read_joint(text):
    joint = read_whole(text)
    refuse_no_line(0 <= joint and joint <= GREATEST_JOINT, "a joint is a number from 0 to 99")
    return joint


def short(numbers):
    refuse_no_line(most_figures(numbers) <= MOST_FIGURES, "a number has at most 30 figures")
    return numbers


def read_short_point(text):
    point = read_point(text)
    short(point[0] + point[1] + point[2])
    return point


def read_thing(kind, text):
    if kind == "four":
        return short(read_four(text))
    if kind == "way":
        return short(read_way(text))
    if kind == "point":
        return read_short_point(text)
    if kind == "setting":
        return short(read_setting(text))
    if kind == "joint":
        return read_joint(text)
    if kind == "hanger":
        return read_hanger(text)
    return read_name(text)


def read_things(form, words):
    things = []
    begin = 0
    for kind in form:
        end = begin + WIDTHS.get(kind, 1)
        things.append(read_thing(kind, " ".join(words[begin:end])))
        begin = end
    return things


# The first word, the kinds of what stands behind it, and these things.
def read_line(line):
    words = line.split(" ")
    form = form_of(words)
    width = sum([WIDTHS.get(kind, 1) for kind in form])
    refuse_no_line(len(words) == width + 1, "these are too few or too many words")
    try:
        things = read_things(form, words[1:])
    except NoText:
        raise NoLine("a word of this line isn't as told")
    return (words[0], form, things)
