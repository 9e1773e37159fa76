import unittest

import helpers
from helpers import BIG, NOTHING, is_plain_four, times

from hangrings.bodies import Body
from hangrings.errors import NoMark, NoName
from hangrings.fours import back, plain, then

NO_NAMES = [
    "", "abcdefghi", "A", "aB", "a1", "1", "a b", " a", "a ", " ", "a\n", "\n", "a_b", "-", "~", "a.b", "a" * 30000,
    "\u00e9", "a\u00e9", "\u0430", "\uff41", "\u00aa", "\u00df",
]
NAMES = ["a", "z", "abcdefgh", "zzzzzzzz", "az", "m", "aa"]


def answers(body):
    return (body.stand(), body.marks(), body.path())


class BodyTest(unittest.TestCase):
    def test_at_first(self):
        self.assertEqual(answers(Body()), (NOTHING, [], [NOTHING]))

    def test_room_is_done_behind_and_own_ahead(self):
        body = Body()
        self.assertIsNone(body.room((1, 1, 0, 0)))
        self.assertIsNone(body.room((2, 0, 2, 0)))
        self.assertEqual(body.stand(), then((1, 1, 0, 0), (1, 0, 1, 0)))
        other = Body()
        self.assertIsNone(other.own((1, 1, 0, 0)))
        self.assertIsNone(other.own((2, 0, 2, 0)))
        self.assertEqual(other.stand(), then((1, 0, 1, 0), (1, 1, 0, 0)))
        self.assertNotEqual(body.stand(), other.stand())

    def test_as_the_document_tells(self):
        body = Body()
        stand = NOTHING
        for number, four in enumerate(helpers.some_fours(601, 20, 5) + helpers.some_fours(602, 10, BIG)):
            if number % 3 == 0:
                body.own(four)
                stand = helpers.hamilton(stand, four)
            else:
                body.room(four)
                stand = helpers.hamilton(four, stand)
            self.assertTrue(is_plain_four(body.stand()))
            self.assertTrue(helpers.same_turn(body.stand(), stand))

    def test_path(self):
        body = Body()
        stands = [NOTHING]
        for number, four in enumerate(helpers.some_fours(603, 12, 4)):
            body.room(four)
            stands.append(body.stand())
            if number % 4 == 0:
                body.mark("here")
                stands.append(body.stand())
            if number % 5 == 4:
                body.to("here")
                stands.append(body.stand())
            self.assertEqual(body.path(), stands)
        body.room(NOTHING)
        self.assertEqual(body.path(), stands + [stands[-1]])
        body.back()
        body.back()
        self.assertEqual(body.path(), stands[:-1])

    def test_marks_in_the_order_of_the_names(self):
        body = Body()
        kept = {}
        for name, four in zip(NAMES, helpers.some_fours(604, len(NAMES), 6)):
            body.own(four)
            self.assertIsNone(body.mark(name))
            kept[name] = body.stand()
            self.assertEqual(body.marks(), sorted(kept.items()))
        self.assertEqual([name for name, four in body.marks()], sorted(NAMES))
        self.assertTrue(all(isinstance(entry, tuple) for entry in body.marks()))

    def test_a_newer_mark_in_the_place_of_an_older_one(self):
        body = Body()
        body.room((2, 1, 0, 0))
        body.mark("a")
        body.mark("b")
        body.room((3, 0, 1, 0))
        body.mark("a")
        newer = body.stand()
        self.assertEqual(body.marks(), [("a", newer), ("b", (2, 1, 0, 0))])
        body.to("b")
        self.assertEqual(body.stand(), (2, 1, 0, 0))
        body.to("a")
        self.assertEqual(body.stand(), newer)
        for number in range(3):
            body.back()
        self.assertEqual(body.marks(), [("a", (2, 1, 0, 0)), ("b", (2, 1, 0, 0))])
        self.assertEqual(body.stand(), newer)
        body.to("a")
        self.assertEqual(body.stand(), (2, 1, 0, 0))

    def test_to(self):
        body = Body()
        body.room((2, 1, 0, 0))
        body.mark("x")
        body.room((3, 0, 1, 0))
        self.assertIsNone(body.to("x"))
        self.assertEqual(body.stand(), (2, 1, 0, 0))
        self.assertEqual(body.marks(), [("x", (2, 1, 0, 0))])
        self.assertEqual(body.path(), [NOTHING, (2, 1, 0, 0), (2, 1, 0, 0), then((2, 1, 0, 0), (3, 0, 1, 0)), (2, 1, 0, 0)])

    def test_since(self):
        body = Body()
        body.mark("begin")
        self.assertEqual(body.since("begin"), NOTHING)
        for four in helpers.some_fours(605, 8, 5):
            body.room(four)
            self.assertEqual(body.since("begin"), body.stand())
        body.mark("now")
        kept = body.stand()
        self.assertEqual(body.since("now"), NOTHING)
        body.room((0, 3, 6, -3))
        self.assertEqual(body.since("now"), (0, 1, 2, -1))
        for four in helpers.some_fours(606, 8, BIG):
            body.own(four)
            told = body.since("now")
            self.assertTrue(is_plain_four(told))
            self.assertEqual(then(kept, told), body.stand())
        before = answers(body)
        body.since("now")
        self.assertEqual(answers(body), before)

    def test_multiples(self):
        for number in [-1, 2, -6, BIG]:
            body = Body()
            for four in helpers.some_fours(607, 5, 4):
                body.room(times(number, four))
                body.own(times(number, four))
            other = Body()
            for four in helpers.some_fours(607, 5, 4):
                other.room(four)
                other.own(four)
            self.assertEqual(answers(body), answers(other))

    def test_stands_of_many_figures(self):
        body = Body()
        for four in helpers.some_fours(608, 48, BIG):
            body.room(four)
        long = body.stand()
        self.assertGreater(max(abs(number) for number in long), 10 ** 1300)
        body.mark("long")
        body.room(back(long))
        self.assertEqual(body.stand(), NOTHING)
        self.assertEqual(body.since("long"), back(long))
        body.own(long)
        self.assertEqual(body.stand(), plain(long))


class RefusedTest(unittest.TestCase):
    def refused(self, body, error, deed, name):
        before = answers(body)
        gone = len(body.gone)
        with self.assertRaises(error):
            getattr(body, deed)(name)
        self.assertEqual(answers(body), before)
        self.assertEqual(len(body.gone), gone)

    def test_no_name(self):
        body = Body()
        body.room((2, 1, 0, 0))
        body.mark("a")
        for name in NO_NAMES:
            for deed in ["mark", "to", "since"]:
                self.refused(body, NoName, deed, name)
        body.back()
        for name in NO_NAMES:
            for deed in ["mark", "to", "since"]:
                self.refused(body, NoName, deed, name)
        body.again()
        self.assertEqual(body.marks(), [("a", (2, 1, 0, 0))])

    def test_no_mark(self):
        body = Body()
        for name in NAMES:
            self.refused(body, NoMark, "to", name)
            self.refused(body, NoMark, "since", name)
        body.mark("a")
        for name in ["aa", "b", "z"]:
            self.refused(body, NoMark, "to", name)
            self.refused(body, NoMark, "since", name)
        body.back()
        self.refused(body, NoMark, "to", "a")
        self.refused(body, NoMark, "since", "a")
        body.again()
        body.to("a")

    def test_told_lists_are_the_asker_s_own(self):
        body = Body()
        body.room((2, 1, 0, 0))
        body.mark("a")
        before = answers(body)
        marks, path = body.marks(), body.path()
        body.marks().clear()
        body.path().clear()
        self.assertEqual(answers(body), before)
        body.room((1, 1, 0, 0))
        body.mark("b")
        self.assertEqual((marks, path), before[1:])


if __name__ == "__main__":
    unittest.main()
