"""What the document promises over the whole program (points 2 and 4).

Every function is asked with ordinary things and with great ones: nothing that is
handed in is changed, the same is told again, and what is told is the asker's own.
"""

import copy
import unittest

import helpers
from helpers import BIG, as_point
from test_chains import some_chain
from test_deeds import body_deed, chain_deed, chain_answers, do, filled, made_anew

from hangrings.axes import about, axis, comes_back, rest, setting_about
from hangrings.bodies import Body
from hangrings.calm import calm, is_calm, lots, step
from hangrings.chains import Chain
from hangrings.errors import NoHanger, NoJoint, NoText, NoTurn
from hangrings.fours import back, plain, size, then, turned
from hangrings.groups import are_unlike, counts, group_of, images, is_group, stays, word_turn
from hangrings.halves import half
from hangrings.hangers import hung, settings_of
from hangrings.heights import height, heights
from hangrings.keeping import keeps
from hangrings.leading import leads, led, led_both, size_of
from hangrings.mirrors import mirrored, other_mirror, two_mirrors
from hangrings.motions import and_then, led_three, moved, screw_of, screwed, undone
from hangrings.papers import body_of, body_paper, chain_of, chain_paper
from hangrings.swings import parted
from hangrings.tables import four_of, is_turn, table_of
from hangrings.texts import (
    read_four, read_number, read_point, read_setting, read_table, read_way,
    show_four, show_number, show_point, show_setting, show_table, show_way,
)
from hangrings.whole import index, kept_rows

FOUR, OTHER = (2, -4, 0, 6), (3, 1, -1, 1)
GREAT = (BIG, -BIG, 7, BIG - 2)
WAY, POINT = (2, 0, -4), as_point("1/2", -3, 0)
GROUP = [(2, 2, 0, 0), (-1, 0, 0, 0), (1, -1, 0, 0), (0, -3, 0, 0)]
SQUARE = [as_point(1, 0, 0), as_point(0, 1, 0), as_point(-1, 0, 0), as_point(0, -1, 0), as_point(0, 0, 0)]
TRIPLE = [as_point(0, 0, 0), as_point(1, 0, 0), as_point("1/2", 2, 0)]
STANDS = [(1, 0, 0, 0), (1, 1, 0, 0), (0, 1, 0, 0), (2, 1, 1, 0), GREAT]


def wheel():
    chain = Chain()
    chain.add((0, 0, 2), as_point(5, 0, 1), (1, 3))
    chain.bend(0, (2, 5))
    chain.back()
    return chain


def marked_body():
    body = Body()
    body.room(FOUR)
    body.mark("b")
    body.own(OTHER)
    body.mark("a")
    body.back()
    return body


def calls():
    """Each function with things to hand in, made anew each time."""
    rows = [
        (plain, FOUR), (size, FOUR), (then, FOUR, GREAT), (back, FOUR), (turned, FOUR, POINT), (table_of, GREAT), (is_turn, table_of(FOUR)),
        (four_of, table_of(FOUR)), (axis, FOUR), (rest, FOUR), (comes_back, FOUR), (about, WAY, (2, 4)), (setting_about, WAY, (1, 1, 0, -2)),
        (parted, WAY, FOUR), (hung, "xyz", ((1, 2), (0, 1), (3, 0))), (settings_of, "zxz", FOUR), (settings_of, "xyx", (3, 5, 0, 0)), (half, OTHER),
        (size_of, WAY), (leads, WAY, (1, 0, -2), FOUR), (led, (0, 3, 0), (0, 0, 1)), (led_both, (1, 0, 0), (0, 1, 0), (0, 1, 0), (0, 0, 1)),
        (word_turn, [FOUR, OTHER], (0, 1, 1)), (group_of, [(1, 1, 0, 0), (2, 0, 2, 0)]), (group_of, [FOUR, OTHER]),
        (are_unlike, [FOUR, OTHER], group_of([FOUR, OTHER])[1]), (is_group, list(GROUP)), (counts, list(GROUP)), (images, list(GROUP), POINT),
        (stays, list(GROUP), as_point(1, 0, 0)), (kept_rows, [FOUR, OTHER]), (index, FOUR), (step, list(STANDS), 0, 4), (calm, list(STANDS), 0, 2),
        (calm, list(STANDS), 1, 1), (is_calm, list(STANDS), 0, 2, [0, 1, 2], (1, 2), [0]), (lots, list(STANDS), (1, 2)), (lots, list(STANDS), (2, 1)),
        (moved, (FOUR, POINT), POINT), (and_then, (FOUR, POINT), (GREAT, POINT)), (undone, (GREAT, POINT)), (led_three, list(TRIPLE), list(TRIPLE)),
        (led_three, tuple(TRIPLE), list(SQUARE[:3])), (screw_of, (GREAT, POINT)), (screw_of, ((5, 0, 0, 0), POINT)), (screwed, WAY, POINT, (1, 3), (2, 4)),
        (mirrored, WAY, POINT), (two_mirrors, WAY, (0, 1, 1)), (other_mirror, (1, 0, 0, 1), (3, 0, 0)), (keeps, list(SQUARE)), (keeps, [POINT, POINT]),
        (height, POINT, WAY), (heights, wheel(), 0, (1, 0, 0), (3, 1)), (heights, wheel(), 0, (0, 0, 1), (1, 1)), (chain_paper, wheel()),
        (body_paper, marked_body()), (show_number, (1, 2)), (show_four, FOUR), (show_way, WAY), (show_point, POINT), (show_table, table_of(FOUR)),
        (show_setting, (2, 4)), (read_number, "-1/2"), (read_four, "2 4 0 6"), (read_way, "0 0 -3"), (read_point, "1 1/2 0"),
        (read_table, "1 0 0; 0 1/2 0; 0 0 3"), (read_setting, "2:4"),
    ]
    return [(row[0], list(row[1:])) for row in rows]


def askings():
    """What chains and bodies are asked."""
    rows = [(thing, word, []) for thing in [wheel(), chain_of(""), some_chain(4, 5)] for word in ["joints", "stands", "places", "tip"]]
    rows += [(thing, word, []) for thing in [marked_body(), Body(), body_of("1 1 0 0; a 1 0 0 0")] for word in ["stand", "marks", "path"]]
    return rows + [(wheel(), "reach", [0, as_point(3, 4, 1)]), (marked_body(), "since", ["b"])]


def state(value):
    """A value as it can be held against another; of chains and bodies all that they answer."""
    if isinstance(value, (Chain, Body)):
        return [copy.deepcopy(value.done), copy.deepcopy(value.gone)]
    return copy.deepcopy(value)


def lists_in(value):
    if not isinstance(value, (list, tuple)):
        return []
    found = [value] if isinstance(value, list) else []
    for entry in value:
        found += lists_in(entry)
    return found


def spoil(value):
    for entry in lists_in(value):
        entry.clear()
        entry.append("other")


def is_told(value):
    """Whole numbers, texts, True, False and None in tuples and lists, and nothing else."""
    if isinstance(value, (list, tuple)):
        return value.__class__ in (list, tuple) and all(is_told(entry) for entry in value)
    return value is None or value.__class__ in (int, str, bool)


class FunctionsTest(unittest.TestCase):
    def test_nothing_that_is_handed_in_is_changed(self):
        for function, handed in calls():
            before = [state(thing) for thing in handed]
            function(*handed)
            self.assertEqual([state(thing) for thing in handed], before, function.__name__)

    def test_the_same_is_told_again(self):
        for (function, handed), (other, anew) in zip(calls(), calls()):
            told = function(*handed)
            self.assertTrue(is_told(told), function.__name__)
            self.assertEqual(function(*handed), told, function.__name__)
            self.assertEqual(other(*anew), told, function.__name__)

    def test_what_is_told_is_the_asker_s_own(self):
        for function, handed in calls():
            told = function(*handed)
            kept = copy.deepcopy(told)
            lists = lists_in(told)
            self.assertEqual(len({id(entry) for entry in lists}), len(lists), function.__name__)
            self.assertFalse({id(entry) for entry in lists} & {id(entry) for entry in lists_in(handed)}, function.__name__)
            again = function(*handed)
            spoil(again)
            self.assertEqual(told, kept, function.__name__)
            self.assertEqual(function(*handed), kept, function.__name__)

    def test_lists_that_were_handed_in_may_be_changed_behind(self):
        for function, handed in calls():
            told = function(*handed)
            kept = copy.deepcopy(told)
            for thing in handed:
                if isinstance(thing, list):
                    spoil(thing)
            self.assertEqual(told, kept, function.__name__)

    def test_chains_and_bodies_are_asked(self):
        for thing, word, handed in askings():
            before = state(thing)
            told = getattr(thing, word)(*handed)
            self.assertTrue(is_told(told), word)
            kept = copy.deepcopy(told)
            spoil(getattr(thing, word)(*handed))
            self.assertEqual(told, kept)
            self.assertEqual(getattr(thing, word)(*handed), kept)
            spoil(told)
            self.assertEqual(getattr(thing, word)(*handed), kept)
            self.assertEqual(state(thing), before)

    def test_refused_calls_change_nothing(self):
        no_table = [list(row) for row in table_of(FOUR)]
        for error, function, handed in [(NoTurn, four_of, [tuple(tuple(row) for row in no_table[::-1])]), (NoHanger, hung, ["xxy", ((0, 1),) * 3]),
                                        (NoHanger, settings_of, ["", FOUR]), (NoJoint, heights, [wheel(), 1, WAY, (0, 1)]),
                                        (NoJoint, heights, [wheel(), -1, WAY, (0, 1)]), (NoText, chain_of, ["; "]), (NoText, body_of, [""]),
                                        (NoText, read_four, ["0 0 0 0"])]:
            before = [state(thing) for thing in handed]
            for number in range(2):
                with self.assertRaises(error):
                    function(*handed)
            self.assertEqual([state(thing) for thing in handed], before)

    def test_what_was_told_later_changes_nothing_told(self):
        chain, body = some_chain(9, 3), marked_body()
        told = [chain.joints(), chain.stands(), chain.places(), chain.tip(), chain_paper(chain), heights(chain, 0, WAY, (0, 1)),
                body.stand(), body.marks(), body.path(), body.since("b"), body_paper(body)]
        kept = copy.deepcopy(told)
        chain.bend(1, (7, 3))
        chain.off()
        chain.back()
        body.mark("b")
        body.room(OTHER)
        body.to("b")
        self.assertEqual(told, kept)


class MadeAnewTest(unittest.TestCase):
    """Behind every row of deeds a body and a chain answer as ones made anew, also in papers and heights."""

    def body_answers(self, body):
        return [body.stand(), body.marks(), body.path(), body_paper(body), body_paper(body_of(body_paper(body)))]

    def chain_answers(self, chain):
        told = [heights(chain, joint, way, height(point, way)) for joint in range(min(len(chain.joints()), 4))
                for way in [(1, 0, 0), (1, -2, 2)] for point in [chain.tip(), as_point(0, 0, 0)] if len(chain.joints()) < 5]
        return told + [chain_paper(chain), chain_answers(chain), chain_answers(chain_of(chain_paper(chain)))]

    def test_rows_of_deeds(self):
        for kind, next_deed, answers in [(Body, body_deed, self.body_answers), (Chain, chain_deed, self.chain_answers)]:
            for seed in range(12):
                thing, deeds = filled(kind, next_deed, 900 + seed, 14)
                for taken_back in range(0, 15, 3):
                    other = thing.twin()
                    for number in range(taken_back):
                        self.assertIsNone(do(other, ("back",)))
                    self.assertEqual(answers(other), answers(made_anew(kind, deeds[:14 - taken_back])))
                    for number in range(taken_back):
                        self.assertIsNone(do(other, ("again",)))
                    self.assertEqual(answers(other), answers(thing))

    def test_a_twin_of_one_that_was_read(self):
        body = body_of("1 1 0 0; a 2 0 0 1")
        other = body.twin()
        other.room((1, 0, 1, 0))
        other.mark("a")
        self.assertEqual(self.body_answers(body), self.body_answers(body_of("1 1 0 0; a 2 0 0 1")))
        self.assertEqual(other.path(), [(1, 1, 0, 0), (1, 1, 1, -1), (1, 1, 1, -1)])


class GreatNumbersTest(unittest.TestCase):
    """What was told is handed in again, with numbers of up to 1,500 figures."""

    def test_fours_of_many_figures(self):
        four = tuple(10 ** 1499 + number for number in (1, -3, 10, 21))
        way = tuple(10 ** 1499 + number for number in (4, 7, -9))
        setting = (10 ** 1499 + 3, 10 ** 1498 + 1)
        point = as_point(10 ** 1499 + 1, 5, -7)
        self.assertEqual(then(then(four, OTHER), back(OTHER)), plain(four))
        self.assertEqual(four_of(table_of(four)), plain(four))
        told = parted(way, four)
        self.assertEqual(then(told[2], told[1]), plain(four))
        self.assertEqual(setting_about(way, about(way, setting)), setting)
        self.assertEqual(turned(back(four), turned(four, point)), point)
        found = half(then(four, four))
        self.assertEqual(then(found, found), then(four, four))
        self.assertEqual(mirrored(way, mirrored(way, point)), point)
        self.assertEqual(moved(undone((four, point)), moved((four, point), point)), point)
        self.assertEqual(read_four(show_four(four)), four)
        told = screw_of((four, point))
        self.assertEqual(screwed(*told[1:]), (plain(four), point))
        triple = [as_point(0, 0, 0), as_point(1, 0, 0), point]
        self.assertEqual(led_three(triple, [moved((four, point), each) for each in triple]), ("only", (plain(four), point)))
        self.assertEqual(keeps([point, turned((0, 1, 1, 0), point)])[1], [(0, 1, 1, 0), (1, 0, 0, 0)])
        self.assertTrue(leads(way, (way[1], way[2], way[0]), led(way, (way[1], way[2], way[0]))[1]))
        self.assertTrue(helpers.same_turn(word_turn([four], (0,)), four))


if __name__ == "__main__":
    unittest.main()
