"""Of bodies and chains alike: deeds taken back and done again, and twins.

Beside each body and chain a plain row of the deeds that stand is kept; one made
anew by these has to answer the same.
"""

import random
import unittest

import helpers
from helpers import NOTHING, as_point

from hangrings.bodies import Body
from hangrings.chains import Chain
from hangrings.errors import NoDeed, TurnError
from hangrings.fours import then

POINTS = [as_point(1, 0, 0), as_point(0, 2, 0), as_point(0, 0, 0), as_point("1/2", 1, -1)]
WAYS = [(1, 0, 0), (0, 0, 1), (0, 2, 0), (1, -1, 1)]
SETTINGS = helpers.small_plain_settings(2) + [(2, 4), (-3, -3), (-1, 0)]


def body_deed(chance):
    word = chance.choice(["room", "own", "mark", "mark", "to", "to"])
    if word in ("room", "own"):
        return (word, chance.choice([(1, 1, 0, 0), (2, 0, 1, 0), (0, 1, 1, 1), NOTHING, (-3, 0, 0, 1)]))
    return (word, chance.choice(["a", "b", "cc", "ddd", "", "E"]))


def chain_deed(chance):
    word = chance.choice(["add", "add", "add", "off", "bend", "bend", "lead", "lead"])
    if word == "add":
        return (word, chance.choice(WAYS), chance.choice(POINTS), chance.choice(SETTINGS))
    if word == "off":
        return (word,)
    if word == "bend":
        return (word, chance.randint(-1, 6), chance.choice(SETTINGS))
    return (word, chance.randint(-1, 6), chance.choice(POINTS))


def do(thing, deed):
    """What was refused, or None."""
    try:
        told = getattr(thing, deed[0])(*deed[1:])
    except TurnError as error:
        return error.__class__
    assert told is None
    return None


def made_anew(kind, deeds):
    thing = kind()
    for deed in deeds:
        assert do(thing, deed) is None
    return thing


def body_answers(body):
    told = [body.stand(), body.marks(), body.path()]
    for name in ["a", "b", "cc", "ddd", "", "E"]:
        try:
            told.append(body.since(name))
        except TurnError as error:
            told.append(error.__class__)
    return told


def chain_answers(chain):
    told = [chain.joints(), chain.stands(), chain.places(), chain.tip()]
    for joint in range(-1, 7):
        for point in POINTS + [chain.tip()]:
            try:
                told.append(chain.reach(joint, point))
            except TurnError as error:
                told.append(error.__class__)
    return told


KINDS = [(Body, body_deed, body_answers), (Chain, chain_deed, chain_answers)]


def filled(kind, next_deed, seed, many):
    """One with many deeds behind it, and these deeds."""
    chance = random.Random(seed)
    thing = kind()
    deeds = []
    while len(deeds) < many:
        deed = next_deed(chance)
        if do(thing, deed) is None:
            deeds.append(deed)
    return thing, deeds


class DeedsTest(unittest.TestCase):
    def row(self, kind, next_deed, answers, seed):
        chance = random.Random(seed)
        thing = kind()
        done = []
        gone = []
        refused = 0
        for number in range(60):
            word = chance.choice(["deed"] * 4 + ["back"] * 3 + ["again"] * 2)
            if word == "deed":
                deed = next_deed(chance)
                before = answers(thing)
                if do(thing, deed) is None:
                    done.append(deed)
                    gone = []
                else:
                    refused += 1
                    self.assertEqual(answers(thing), before)
            elif word == "back":
                self.assertIs(do(thing, ("back",)), None if done else NoDeed)
                if done:
                    gone.append(done.pop())
            else:
                self.assertIs(do(thing, ("again",)), None if gone else NoDeed)
                if gone:
                    done.append(gone.pop())
            if chance.randrange(8) == 0:
                other = thing.twin()
                self.assertIsInstance(other, kind)
                # The first one is led astray, and the row goes on with its twin.
                for astray in range(4):
                    do(thing, next_deed(chance))
                    do(thing, ("back",))
                    do(thing, next_deed(chance))
                thing = other
            self.assertEqual(answers(thing), answers(made_anew(kind, done)))
        return refused

    def test_rows_of_deeds(self):
        for kind, next_deed, answers in KINDS:
            refused = [self.row(kind, next_deed, answers, seed) for seed in range(25)]
            self.assertGreater(sum(refused), 20)

    def test_all_the_way_back_and_again(self):
        for kind, next_deed, answers in KINDS:
            thing, deeds = filled(kind, next_deed, 5, 30)
            for many in range(29, -1, -1):
                self.assertIsNone(thing.back())
                self.assertEqual(answers(thing), answers(made_anew(kind, deeds[:many])))
            with self.assertRaises(NoDeed):
                thing.back()
            for many in range(1, 31):
                self.assertIsNone(thing.again())
                self.assertEqual(answers(thing), answers(made_anew(kind, deeds[:many])))
            with self.assertRaises(NoDeed):
                thing.again()
            self.assertEqual(answers(thing), answers(made_anew(kind, deeds)))

    def test_none_at_first(self):
        for kind, next_deed, answers in KINDS:
            for word in ["back", "again"]:
                thing = kind()
                with self.assertRaises(NoDeed):
                    getattr(thing, word)()
                self.assertEqual(answers(thing), answers(kind()))

    def test_a_new_deed_forgets_those_taken_back(self):
        for kind, next_deed, answers in KINDS:
            thing, deeds = filled(kind, next_deed, 6, 12)
            thing.back()
            thing.back()
            before = answers(thing)
            chance = random.Random(6)
            deed = next_deed(chance)
            while do(thing, deed) is not None:
                self.assertEqual(answers(thing), before)
                deed = next_deed(chance)
            after = answers(thing)
            with self.assertRaises(NoDeed):
                thing.again()
            self.assertEqual(answers(thing), after)
            thing.back()
            self.assertEqual(answers(thing), before)

    def test_refused_calls_are_no_deeds_and_forget_nothing(self):
        for kind, wrong in [(Body, [("mark", "A"), ("to", ""), ("to", "zz")]),
                            (Chain, [("bend", -1, (0, 1)), ("bend", 9, (0, 1)), ("lead", 9, POINTS[0])])]:
            next_deed, answers = [row[1:] for row in KINDS if row[0] is kind][0]
            thing, deeds = filled(kind, next_deed, 7, 10)
            thing.back()
            for deed in wrong:
                self.assertIsNotNone(do(thing, deed))
            thing.again()
            self.assertEqual(answers(thing), answers(made_anew(kind, deeds)))
            for deed in wrong:
                self.assertIsNotNone(do(thing, deed))
            thing.back()
            self.assertEqual(answers(thing), answers(made_anew(kind, deeds[:-1])))

    def test_deeds_by_which_nothing_changes_are_kept(self):
        body = Body()
        for deed in [("room", NOTHING), ("own", (-4, 0, 0, 0)), ("mark", "a"), ("mark", "a"), ("to", "a")]:
            self.assertIsNone(do(body, deed))
        self.assertEqual(body.path(), [NOTHING] * 6)
        for number in range(5):
            body.back()
        self.assertEqual(body_answers(body), body_answers(Body()))
        self.assertIs(do(body, ("back",)), NoDeed)
        chain = Chain()
        for deed in [("add", (1, 0, 0), POINTS[0], (1, 2)), ("bend", 0, (2, 4)), ("lead", 0, POINTS[0])]:
            self.assertIsNone(do(chain, deed))
        for number in range(2):
            chain.back()
            self.assertEqual(chain.joints(), [((1, 0, 0), POINTS[0], (1, 2))])
        chain.back()
        self.assertEqual(chain.joints(), [])
        self.assertIs(do(chain, ("back",)), NoDeed)

    def test_a_twin_has_the_deeds_also_those_taken_back(self):
        for kind, next_deed, answers in KINDS:
            thing, deeds = filled(kind, next_deed, 8, 15)
            for number in range(6):
                thing.back()
            other = thing.twin()
            self.assertIs(other.__class__, kind)
            for number in range(6):
                self.assertEqual(answers(other), answers(thing))
                thing.again()
                other.again()
            self.assertEqual(answers(other), answers(made_anew(kind, deeds)))
            self.assertIs(do(other, ("again",)), NoDeed)
            for number in range(15):
                other.back()
            self.assertEqual(answers(other), answers(kind()))
            self.assertIs(do(other, ("back",)), NoDeed)
            self.assertEqual(answers(thing), answers(made_anew(kind, deeds)))

    def test_a_twin_shares_nothing(self):
        for kind, next_deed, answers in KINDS:
            for first_is_changed in (True, False):
                thing, deeds = filled(kind, next_deed, 9, 8)
                thing.back()
                thing.back()
                before = answers(thing)
                other = thing.twin()
                changed, still = (thing, other) if first_is_changed else (other, thing)
                changed.again()
                changed.back()
                for number in range(6):
                    changed.back()
                chance = random.Random(1)
                for number in range(10):
                    do(changed, next_deed(chance))
                self.assertEqual(answers(still), before)
                still.again()
                still.again()
                self.assertEqual(answers(still), answers(made_anew(kind, deeds)))

    def test_two_made_anew_share_nothing(self):
        for kind, next_deed, answers in KINDS:
            thing, deeds = filled(kind, next_deed, 10, 8)
            self.assertEqual(answers(kind()), answers(made_anew(kind, [])))
            self.assertIs(do(kind(), ("back",)), NoDeed)

    def test_an_older_mark_is_there_again(self):
        body = Body()
        body.room((2, 1, 0, 0))
        body.mark("a")
        body.room((2, 0, 1, 0))
        body.mark("a")
        body.back()
        self.assertEqual(body.marks(), [("a", (2, 1, 0, 0))])
        body.back()
        body.back()
        self.assertEqual(body.marks(), [])
        body.again()
        self.assertEqual(body.marks(), [("a", (2, 1, 0, 0))])
        body.again()
        body.again()
        self.assertEqual(body.marks(), [("a", then((2, 1, 0, 0), (2, 0, 1, 0)))])

    def test_many_deeds(self):
        body = Body()
        for number in range(3000):
            body.own((1, 1, 0, 0))
            body.mark("abc"[number % 3] + "xyz"[number % 2])
        self.assertEqual(len(body.path()), 6001)
        for number in range(6000):
            body.back()
        self.assertEqual(body_answers(body), body_answers(Body()))


if __name__ == "__main__":
    unittest.main()
