"""A desk: each line's answer, and refusals in their order.

Behind each refused line the whole desk has to be as ahead of it, which is asked
of copies: all names, stands and settings, and all deeds taken back and done again.
"""

import copy
import random
import unittest
from fractions import Fraction

import helpers
from helpers import BIG, as_point

from hangrings.axes import axis, comes_back, rest
from hangrings.bodies import Body
from hangrings.calm import step
from hangrings.chains import Chain
from hangrings.desk import Desk
from hangrings.errors import (
    NoDeed, NoHanger, NoJoint, NoKept, NoLine, NoMark, NoReach, TooMany, TurnError,
)
from hangrings.fours import back, plain, then, turned
from hangrings.groups import group_of
from hangrings.halves import half
from hangrings.hangers import hung, settings_of
from hangrings.leading import led
from hangrings.lines import FORMS
from hangrings.swings import parted
from hangrings.whole import kept_rows

LONG = "9" * 30
TOO_LONG = "1" + "0" * 30
NO_NAMES = ["", "A", "a1", "abcdefghi", "1", "a_b", "~", "a-b", "aB"]


def row_text(numbers):
    return " ".join(str(number) for number in numbers)


def point_text(point):
    return " ".join(str(Fraction(*entry)) for entry in point)


def setting_text(setting):
    return f"{setting[0]}:{setting[1]}"


def desk_of(*lines):
    desk = Desk()
    for line in lines:
        desk.say(line)
    return desk


def kept_fours(desk):
    return [(name, desk.say("show " + name)) for name in desk.say("names").split()]


def all_said(desk, word):
    """What a desk answers, deed by deed, until the word is refused."""
    desk = copy.deepcopy(desk)
    told = []
    while True:
        told.append((desk.say("stand"), desk.say("path"), desk.say("tip"), desk.body.marks(), desk.chain.joints()))
        try:
            desk.say(word)
        except NoDeed:
            return told


def everything(desk):
    return [kept_fours(desk)] + [all_said(desk, word) for word in ["undo", "redo", "unbend", "rebend"]]


class DeskTest(unittest.TestCase):
    def says(self, desk, *pairs):
        for line, answer in pairs:
            told = desk.say(line)
            self.assertEqual(told, answer, line)
            self.assertIsInstance(told, str)

    def refused(self, desk, error, *lines):
        before = everything(desk)
        for line in lines:
            with self.assertRaises(TurnError, msg=line[:60]) as caught:
                desk.say(line)
            self.assertIs(caught.exception.__class__, error, line[:60])
            self.assertEqual(everything(desk), before, line[:60])


class FoursTest(DeskTest):
    def test_nothing_is_kept_at_first(self):
        self.says(Desk(), ("names", ""), ("stand", "1 0 0 0"), ("path", "1 0 0 0"), ("tip", "0 0 0"))

    def test_keep(self):
        desk = Desk()
        self.says(desk, ("keep b -2 -4 0 6", "ok"), ("show b", "1 2 0 -3"), ("keep a 0 0 -5 0", "ok"), ("names", "a b"),
                  ("show a", "0 0 1 0"), ("keep b 1 1 0 0", "ok"), ("show b", "1 1 0 0"), ("names", "a b"),
                  ("keep abcdefgh 7 0 0 0", "ok"), ("show abcdefgh", "1 0 0 0"), ("names", "a abcdefgh b"),
                  (f"keep z {LONG} -{LONG} 0 1", "ok"), ("show z", f"{LONG} -{LONG} 0 1"))

    def test_names_are_in_python_s_order(self):
        desk = Desk()
        names = ["zz", "b", "ab", "a", "aa", "z", "b"]
        for name in names:
            desk.say(f"keep {name} 1 0 0 1")
        self.assertEqual(desk.say("names"), "a aa ab b z zz")

    def test_words_of_lines_are_names_too(self):
        desk = Desk()
        for name in ["keep", "group", "names", "kept", "none"]:
            self.says(desk, (f"keep {name} 1 1 0 0", "ok"), (f"show {name}", "1 1 0 0"))

    def test_then_back_and_half(self):
        desk = desk_of("keep a 1 1 0 0", "keep b 1 0 1 0")
        self.says(desk, ("then c a b", "ok"), ("show c", "1 1 1 -1"), ("then d b a", "ok"), ("show d", "1 1 1 1"),
                  ("back e c", "ok"), ("show e", "1 -1 -1 1"), ("half f c", "ok"), ("show f", "3 1 1 -1"),
                  ("names", "a b c d e f"))

    def test_they_keep_in_the_place_of_an_older_one(self):
        desk = desk_of("keep a 1 1 0 0", "keep b 2 0 1 0", "keep c 1 0 0 0")
        self.says(desk, ("then a a a", "ok"), ("show a", "0 1 0 0"), ("back b b", "ok"), ("show b", "2 0 -1 0"),
                  ("then c b a", "ok"), ("keep d 1 1 1 1", "ok"), ("half d d", "ok"), ("show d", "3 1 1 1"), ("names", "a b c d"))

    def test_no_half(self):
        desk = desk_of("keep a 1 1 0 0", "keep b 1 2 3 4")
        self.says(desk, ("half c a", "none"), ("names", "a b"), ("half b a", "none"), ("show b", "1 2 3 4"),
                  ("half a a", "none"), ("show a", "1 1 0 0"), ("names", "a b"))

    def test_axis_rest_and_comes(self):
        desk = desk_of("keep a 2 4 6 -8", "keep n 1 0 0 0", "keep h 0 0 -3 3", "keep q 1 0 1 0", "keep t 1 1 1 1", "keep s 3 1 1 1")
        self.says(desk, ("axis a", "2 3 -4"), ("axis n", "none"), ("axis h", "0 1 -1"), ("rest a", "1/30"), ("rest n", "1"),
                  ("rest h", "0"), ("rest q", "1/2"), ("comes a", "never"), ("comes n", "1"), ("comes h", "2"),
                  ("comes t", "3"), ("comes q", "4"), ("comes s", "6"))

    def test_turn(self):
        desk = desk_of("keep a 1 1 0 0", "keep b 2 0 0 1")
        self.says(desk, ("turn a 0 1 0", "0 0 1"), ("turn a 1/2 -2/3 0", "1/2 0 -2/3"), ("turn b 1 0 -7", "3/5 4/5 -7"),
                  ("turn b 0 0 0", "0 0 0"), (f"turn a 0 {LONG} 1/{LONG}", f"0 -1/{LONG} {LONG}"))

    def test_parted(self):
        desk = desk_of("keep a 1 1 1 1", "keep h 0 1 0 0", "keep n 1 0 0 0")
        self.says(desk, ("parted a 0 0 1", "swing 1 0 1 0 twist 1 0 0 1"), ("parted h 0 0 5", "lock"),
                  ("parted h 2 0 0", "swing 1 0 0 0 twist 0 1 0 0"), ("parted n 1 2 3", "swing 1 0 0 0 twist 1 0 0 0"))

    def test_hang_and_set(self):
        desk = desk_of("keep n 3 0 0 0", "keep w 3 5 0 0", "keep no 1 1 1 0", "keep g 1 0 0 1")
        self.says(desk, ("hang xyz 1:1 1:1 0:1", "1 1 1 1"), ("hang zxz -2:-2 0:-3 4:0", "1 0 0 -1"),
                  ("set xyz n", "set 0:1 0:1 0:1 1:0 1:0 1:0"), ("set xyx w", "lock 0:1 with 5:3"), ("set xyx no", "none"),
                  ("set xyx g", "set -1:1 -1:1 1:1 1:1 1:1 -1:1"))
        desk.say("keep l 0 0 1 2")
        self.says(desk, ("set xyx l", "lock 1:0 against 2:1"))

    def test_led_group_kept_and_step(self):
        desk = desk_of("keep a 1 1 0 0", "keep b 1 0 1 0", "keep n 1 0 0 0", "keep e 2 0 0 1", "keep h 0 1 0 0")
        self.says(desk, ("led 0 1 0 0 0 1", "led"), ("led 1 0 0 1 1 0", "none"), ("led -2 0 0 5 0 0", "led"),
                  ("group n", "group 1"), ("group a", "group 4"), ("group a a n a", "group 4"), ("group a b", "group 24"),
                  ("group h h h h h h", "group 2"), ("group e", "endless"), ("group a b n h h e", "endless"),
                  ("kept e", "5 0 0 3 1 0 0 0 1"), ("kept n", "1 0 0 0 1 0 0 0 1"),
                  ("step a b", "1/4"), ("step a a", "1"), ("step n h", "0"), ("step b a", "1/4"))

    def test_as_the_functions_tell(self):
        fours = helpers.some_fours(711, 25, 3) + helpers.some_fours(712, 3, BIG)
        text = row_text
        for one, other in zip(fours, fours[1:]):
            desk = desk_of("keep a " + text(one), "keep b " + text(other))
            one, other = plain(one), plain(other)
            self.says(desk, ("show a", text(one)), ("axis a", text(axis(one)) if axis(one) else "none"),
                      ("rest a", str(Fraction(*rest(one)))), ("comes a", str(comes_back(one) or "never")),
                      ("turn b 1 2 3/4", point_text(turned(other, as_point(1, 2, "3/4")))),
                      ("kept a", " ".join(text(row) for row in kept_rows([one]))), ("step a b", str(Fraction(*step([one, other], 0, 1)))),
                      ("then c a b", "ok"), ("show c", text(then(one, other))), ("back d b", "ok"), ("show d", text(back(other))),
                      ("half e a", "ok" if half(one) else "none"))
            told = group_of([one, other])
            self.says(desk, ("group a b", f"group {len(told[1])}" if told[0] == "group" else "endless"))
            told = parted((1, 2, -2), one)
            self.says(desk, ("parted a 1 2 -2", "lock" if told == ("lock",) else f"swing {text(told[1])} twist {text(told[2])}"))
            self.says(desk, ("led 1 2 2 0 3 4", led((1, 2, 2), (0, 3, 4))[0]))
            for hanger in ["xyz", "zxz", "yxz"]:
                told = settings_of(hanger, one)
                answer = " ".join(setting_text(setting) for setting in told[1] + told[2]) if told[0] == "set" else None
                if told[0] == "lock":
                    answer = f"{setting_text(told[1])} {told[2]} {setting_text(told[3])}"
                self.says(desk, (f"set {hanger} a", " ".join([told[0], answer]) if answer else "none"))
                self.says(desk, (f"hang {hanger} 2:4 -1:3 5:0", text(hung(hanger, ((1, 2), (-1, 3), (1, 0))))))


class BodyAndChainTest(DeskTest):
    def test_body(self):
        desk = desk_of("keep a 1 1 0 0", "keep b 1 0 1 0")
        self.says(desk, ("room a", "ok"), ("stand", "1 1 0 0"), ("mark here", "ok"), ("own b", "ok"), ("stand", "1 1 1 1"),
                  ("path", "1 0 0 0; 1 1 0 0; 1 1 0 0; 1 1 1 1"), ("to here", "ok"), ("stand", "1 1 0 0"), ("undo", "ok"),
                  ("stand", "1 1 1 1"), ("undo", "ok"), ("redo", "ok"), ("stand", "1 1 1 1"), ("redo", "ok"),
                  ("stand", "1 1 0 0"), ("room b", "ok"), ("stand", "1 1 1 -1"))
        self.refused(desk, NoDeed, "redo")

    def test_marks_and_kept_fours_are_two_things(self):
        desk = desk_of("keep a 1 1 0 0", "mark b")
        self.refused(desk, NoMark, "to a")
        self.refused(desk, NoKept, "room b", "show b")
        self.says(desk, ("mark a", "ok"), ("show a", "1 1 0 0"), ("keep b 2 0 0 1", "ok"), ("room b", "ok"), ("to b", "ok"),
                  ("stand", "1 0 0 0"), ("names", "a b"))

    def test_a_body_has_the_four_as_it_was(self):
        desk = desk_of("keep a 1 1 0 0", "room a", "keep a 1 0 0 1")
        self.says(desk, ("stand", "1 1 0 0"), ("path", "1 0 0 0; 1 1 0 0"))

    def test_chain(self):
        desk = Desk()
        self.says(desk, ("joint 0 0 1 5 0 0 0:1", "ok"), ("tip", "5 0 0"), ("reach 0 3 4 0", "only 1:2"), ("lead 0 3 4 0", "ok"),
                  ("tip", "3 4 0"), ("unbend", "ok"), ("tip", "5 0 0"), ("rebend", "ok"), ("tip", "3 4 0"), ("reach 0 5 0 1/2", "none"),
                  ("bend 0 -2:0", "ok"), ("tip", "-5 0 0"), ("joint 1 0 0 0 1/2 0 2:2", "ok"), ("tip", "-5 0 1/2"),
                  ("off", "ok"), ("tip", "-5 0 0"), ("off", "ok"), ("tip", "0 0 0"), ("joint 1 2 3 2 4 6 7:3", "ok"),
                  ("reach 0 2 4 6", "any"), ("lead 0 2 4 6", "ok"), ("unbend", "ok"), ("tip", "2 4 6"))

    def test_the_way_and_the_arm_are_kept_as_told(self):
        desk = desk_of("joint 0 0 -4 1/2 0 -7 -6:4")
        self.assertEqual(desk.chain.joints(), [((0, 0, -4), as_point("1/2", 0, -7), (-3, 2))])

    def test_two_desks_share_nothing(self):
        one, other = Desk(), Desk()
        before = everything(other)
        for line in ["keep a 1 1 0 0", "room a", "mark a", "joint 0 0 1 1 0 0 1:1", "undo", "unbend"]:
            one.say(line)
        self.assertEqual(everything(other), before)
        self.refused(other, NoKept, "show a")
        self.refused(other, NoMark, "to a")
        self.refused(other, NoDeed, "undo", "redo", "unbend", "rebend")
        other.say("keep a 2 1 0 0")
        self.says(one, ("show a", "1 1 0 0"), ("redo", "ok"), ("rebend", "ok"))

    def test_rows_of_lines_as_a_body_and_a_chain_of_one_s_own(self):
        for seed in range(12):
            chance = random.Random(seed)
            desk = desk_of("keep a 1 1 0 0", "keep b 2 0 0 1")
            fours = {"a": (1, 1, 0, 0), "b": (2, 0, 0, 1)}
            body, chain = Body(), Chain()
            for number in range(60):
                line, deed = some_deed(chance, body, chain, fours)
                try:
                    deed()
                    self.says(desk, (line, "ok"))
                except TurnError as error:
                    self.refused(desk, error.__class__, line)
                self.says(desk, ("stand", row_text(body.stand())), ("tip", point_text(chain.tip())),
                          ("path", "; ".join(row_text(stand) for stand in body.path())))


def some_deed(chance, body, chain, fours):
    word = chance.choice(["room", "own", "mark", "to", "undo", "redo", "joint", "off", "bend", "lead", "unbend", "rebend"])
    name = chance.choice(["a", "b"])
    joint = chance.randrange(8)
    setting = chance.choice([(1, 1), (2, 4), (-1, 0), (0, -3)])
    point = chance.choice([(1, 0, 0), (0, 2, 0), (0, 0, 0)])
    way = chance.choice([(1, 0, 0), (0, 0, 1)])
    arm = as_point(*point)
    deeds = {
        "room": (f"room {name}", lambda: body.room(fours[name])),
        "own": (f"own {name}", lambda: body.own(fours[name])),
        "mark": (f"mark {name}", lambda: body.mark(name)),
        "to": (f"to {name}", lambda: body.to(name)),
        "undo": ("undo", body.back),
        "redo": ("redo", body.again),
        "joint": (f"joint {row_text(way)} {row_text(point)} {setting_text(setting)}", lambda: chain.add(way, arm, setting)),
        "off": ("off", chain.off),
        "bend": (f"bend {joint} {setting_text(setting)}", lambda: chain.bend(joint, setting)),
        "lead": (f"lead {joint} {row_text(point)}", lambda: chain.lead(joint, arm)),
        "unbend": ("unbend", chain.back),
        "rebend": ("rebend", chain.again),
    }
    return deeds[word]


GOOD = {"name": "new", "kept": "a", "four": "1 2 3 4", "way": "1 0 2", "point": "1/2 0 -3", "setting": "2:3", "hanger": "xyz",
        "joint": "0"}


def wrong_things(kind):
    if kind in ("name", "kept"):
        return NO_NAMES
    if kind == "hanger":
        return [""]
    if kind == "joint":
        return ["", "-1", "-0", "100", "007", "00", "01", "+1", "1/2", "a", "1.", "1" * 40, "1" * 5000, "0:1"]
    if kind == "setting":
        return ["", "0:0", "1", "1:2:3", "+1:2", "01:2", "1:-0", "1/2:3", f"{TOO_LONG}:1", f"1:-{TOO_LONG}", "1:" + "1" * 2000]
    words = GOOD[kind].split(" ")
    wrong = [" ".join(["x"] + words[1:]), " ".join(words[:-1] + ["-0"]), " ".join(words[:-1] + ["+1"]), " ".join(words[:-1] + ["02"]),
             " ".join(words[:-1] + [TOO_LONG]), " ".join(["-" + TOO_LONG] + words[1:]), " ".join(words[:-1] + [""]),
             " ".join(words[:-1] + ["1" * 25000])]
    if kind == "point":
        return wrong + ["1/1 0 0", "0 2/4 0", "0 0 1/0", "0 0 1/-2", f"1/{TOO_LONG} 0 0", f"0 0 {TOO_LONG}/7"]
    return wrong + [" ".join(["0"] * len(words)), " ".join(words[:-1] + ["1/2"])]


def line_of(word, form):
    return " ".join([word] + [GOOD[kind] for kind in form])


FULL_DESK = [
    "keep a 1 2 3 4", "keep b 1 1 0 0", "room a", "mark m", "own b", "undo", "joint 0 0 1 5 0 0 1:2", "joint 1 0 0 0 1 1 3:1",
    "bend 1 1:5", "unbend",
]


class RefusedTest(DeskTest):
    def forms(self):
        return list(FORMS.items()) + [("group", ("kept",) * many) for many in (1, 2, 6)]

    def test_the_first_word_and_the_number_of_words(self):
        desk = desk_of(*FULL_DESK)
        wrong = ["", " ", "  ", "Keep a 1 0 0 0", "KEEP a 1 0 0 0", "say a", "add 1 0 0 1 0 0 1:1", "group", "group " + " ".join(["a"] * 7),
                 "again", "marks", "since m", "twin", "a", "names\n", "\tnames", "names;", " " * 30000, "a" * 30000, "names " * 5000]
        for word, form in self.forms():
            line = line_of(word, form)
            wrong += [" " + line, line + " ", line.replace(" ", "  ") + " ", line.upper(), line + "\n"]
            if word != "group":
                wrong.append(line + " a")
            if form and not (word == "group" and len(form) > 1):
                wrong.append(line.rpartition(" ")[0])
        self.refused(desk, NoLine, *wrong)

    def test_words_that_are_not_as_told(self):
        desk = desk_of(*FULL_DESK)
        for word, form in self.forms():
            for place, kind in enumerate(form):
                for wrong in wrong_things(kind):
                    things = [GOOD[other] for other in form]
                    things[place] = wrong
                    self.refused(desk, NoLine, " ".join([word] + things))

    def test_no_line_is_looked_at_ahead_of_all_else(self):
        desk = desk_of(*FULL_DESK)
        self.refused(desk, NoLine, "turn none 1 0", "turn none 1 0 x", "then A none none", "then c none B", "set  none", "hang q 0:0 1:1 1:1",
                     "bend 50 0:0", "lead 99 1 0", "lead 100 1 0 0", "reach 7 1 0 1/1", "group none A", "parted none 0 0 0")

    def test_numbers_of_thirty_figures(self):
        desk = desk_of("keep a 1 0 0 1")
        self.says(desk, (f"keep b {LONG} 0 0 -{LONG}", "ok"), (f"turn a 0 0 -{LONG}/2", f"0 0 -{LONG}/2"), (f"turn a 0 0 2/{LONG}", f"0 0 2/{LONG}"),
                  (f"joint {LONG} 0 -{LONG} 0 0 0 {LONG}:-{LONG}", "ok"), (f"hang xyx {LONG}:-{LONG} 0:1 0:1", "1 -1 0 0"))

    def test_no_kept(self):
        desk = desk_of(*FULL_DESK)
        for word, form in self.forms():
            for place, kind in enumerate(form):
                if kind == "kept":
                    things = [GOOD[other] for other in form]
                    things[place] = "zz"
                    self.refused(desk, NoKept, " ".join([word] + things))
        self.refused(desk, NoKept, "then zz zz a", "back zz zz", "half q q", "show new", "show m")

    def test_no_kept_ahead_of_no_hanger(self):
        desk = desk_of(*FULL_DESK)
        self.refused(desk, NoKept, "set xxx zz", "set ~ zz", "set xyz zz")
        for hanger in ["x", "xx", "xxy", "xyy", "xyzx", "XYZ", "abc", "~", "1", "-0", "xyw", "x" * 20000, "a"]:
            self.refused(desk, NoHanger, f"set {hanger} a", f"hang {hanger} 1:1 0:1 1:0")

    def test_as_bodies_and_chains_refuse(self):
        desk = Desk()
        self.refused(desk, NoDeed, "undo", "redo", "unbend", "rebend")
        self.refused(desk, NoMark, "to m")
        self.refused(desk, NoJoint, "off", "bend 0 1:1", "lead 0 1 0 0", "reach 0 1 0 0", "bend 99 1:1", "reach 99 0 0 0")
        desk = desk_of(*FULL_DESK)
        self.refused(desk, NoMark, "to a", "to mm")
        self.refused(desk, NoJoint, "bend 2 1:1", "lead 2 1 0 0", "reach 2 1 0 0", "bend 99 1:1", "lead 10 0 0 0")
        self.refused(desk, NoReach, "lead 0 1000 0 0", "lead 1 0 0 0")
        for number in range(4):
            desk.say("joint 1 0 0 1 0 0 0:1")
        self.refused(desk, TooMany, "joint 1 0 0 1 0 0 0:1")
        self.says(desk, ("unbend", "ok"), ("rebend", "ok"))


def most_figures(text):
    return max(len(word.strip("-")) for word in text.replace(":", " ").split())


def near_two_hundred():
    """A desk with a four near of 192 figures, that times 10 ** 8 has 200 and times 10 ** 8 + 1 has 201."""
    desk = desk_of("keep near 1" + "0" * 24 + " 1 0 0")
    for number in range(3):
        desk.say("then near near near")
    desk.say("keep low 100000000 3 0 0")
    desk.say("keep high 100000001 3 0 0")
    return desk


def growing_half():
    """A desk with a four big of up to 200 figures whose half has more of them.

    A half turn about x, led elsewhere by a four whose size is even, and then a
    half turn about x make a turn whose size is a square. Its half is no smaller.
    """
    chance = random.Random(721)
    for tried in range(1000):
        desk = desk_of("keep x 0 1 0 0", "keep led 1 1 0 0")
        for number in range(4):
            desk.say("keep more " + row_text([chance.randint(10 ** 24, 2 * 10 ** 25) for place in range(4)]))
            desk.say("then led led more")
        desk.say("back big led")
        try:
            for name in ["x", "led", "x"]:
                desk.say("then big big " + name)
        except TooMany:
            continue
        found = half(tuple(int(word) for word in desk.say("show big").split()))
        if found is not None and most_figures(row_text(found)) > 200:
            return desk
    raise AssertionError("no such four was found")


class TooManyTest(DeskTest):
    def test_then(self):
        desk = near_two_hundred()
        self.assertEqual(most_figures(desk.say("show near")), 192)
        self.refused(desk, TooMany, "then new near high", "then new high near", "then near near high", "then high near near")
        self.says(desk, ("then low near low", "ok"))
        self.assertEqual(most_figures(desk.say("show low")), 200)
        self.refused(desk, TooMany, "then near near low", "then new low low", "then low low high")
        self.says(desk, ("back low low", "ok"))
        self.assertEqual(most_figures(desk.say("show low")), 200)
        self.says(desk, ("then new near low", "ok"), ("show new", "100000000 -3 0 0"))

    def test_half(self):
        desk = growing_half()
        self.assertLessEqual(most_figures(desk.say("show big")), 200)
        self.refused(desk, TooMany, "half new big", "half big big", "half x big")
        self.says(desk, ("half new x", "ok"), ("show new", "1 1 0 0"))

    def test_stands(self):
        for word in ["room", "own"]:
            desk = near_two_hundred()
            self.says(desk, (f"{word} near", "ok"), ("mark m", "ok"), (f"{word} low", "ok"), ("undo", "ok"))
            self.refused(desk, TooMany, f"{word} high", "room near", "own near")
            self.says(desk, ("redo", "ok"), ("mark n", "ok"), ("to m", "ok"), ("to n", "ok"))
            self.assertEqual(most_figures(desk.say("stand")), 200)
            self.refused(desk, TooMany, f"{word} high", "room low", "own low")
            self.says(desk, ("undo", "ok"), ("redo", "ok"))

    def bent(self, *settings):
        """Joints about one axis: to lead the tip to 1 0 0, the first has to take all the others back."""
        desk = desk_of("joint 0 0 1 0 0 0 0:1")
        for number, (k, l) in enumerate(settings):
            desk.say(f"joint 0 0 1 {1 if number == len(settings) - 1 else 0} 0 0 {k}:{l}")
        return desk

    def test_settings(self):
        desk = self.bent((1, BIG), (1, BIG - 1))
        answer = desk.say("reach 0 1 0 0")
        self.assertEqual(answer, f"only {1 - 2 * BIG}:{BIG * (BIG - 1) - 1}")
        self.assertEqual(most_figures(answer[5:]), 60)
        self.says(desk, ("lead 0 1 0 0", "ok"), ("tip", "1 0 0"), ("reach 1 1 0 0", f"only 1:{BIG}"))

    def test_great_settings(self):
        for settings in [((1, BIG), (1, BIG - 1), (1, 11)), ((BIG, 2), (BIG - 1, 1), (BIG - 2, 3)), ((BIG, BIG - 1), (BIG - 3, BIG - 2))]:
            desk = self.bent(*settings)
            told = desk.chain.reach(0, as_point(1, 0, 0))
            self.assertEqual(told[0], "only")
            self.assertGreater(most_figures(setting_text(told[1])), 60)
            self.refused(desk, TooMany, "reach 0 1 0 0", "lead 0 1 0 0")
            self.refused(desk, NoJoint, "lead 7 1 0 0", "reach 7 1 0 0")
            self.refused(desk, NoReach, "lead 0 2 0 0")
            self.says(desk, ("reach 0 2 0 0", "none"), ("unbend", "ok"))
            self.says(desk, ("reach 0 0 0 0", "any"), ("rebend", "ok"))

    def test_great_answers_are_told_whole(self):
        desk = Desk()
        for number in range(5):
            near = 10 ** 30 - 2 * number - 1
            desk.say(f"joint {near} {near - 2} {near - 4} 1/{near - 6} 1/{near - 8} 1/{near - 12} {near}:{near - 6}")
        self.assertEqual(desk.say("tip"), point_text(desk.chain.tip()))
        self.assertGreater(len(desk.say("tip")), 3000)
        desk = near_two_hundred()
        desk.say("then low near low")
        four = plain(tuple(int(word) for word in desk.say("show low").split()))
        self.says(desk, ("rest low", str(Fraction(*rest(four)))), ("kept low", " ".join(row_text(row) for row in kept_rows([four]))),
                  ("turn low 1 2/3 1", point_text(turned(four, as_point(1, "2/3", 1)))), ("comes low", "never"), ("group low near", "endless"))


if __name__ == "__main__":
    unittest.main()
