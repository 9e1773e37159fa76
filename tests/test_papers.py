import random
import unittest

import helpers
from helpers import BIG, NOTHING, as_point
from test_chains import great_chain, some_chain
from test_deeds import body_deed, chain_deed, do, filled

from hangrings.bodies import Body
from hangrings.chains import Chain
from hangrings.errors import NoDeed, NoText
from hangrings.fours import then
from hangrings.papers import body_of, body_paper, chain_of, chain_paper

LONG = "9" * 1500
JOINT = "0 0 1 1/2 0 -3 1:2"


def chain_told(chain):
    return (chain.joints(), chain.stands(), chain.places(), chain.tip())


def body_told(body):
    return (body.stand(), body.marks(), body.path(), [body.since(name) for name, four in body.marks()])


def everything(thing, told):
    """All answers, also with all deeds taken back and done again, of a twin."""
    found = []
    for word in ["back", "again"]:
        other = thing.twin()
        found.append(told(other))
        while do(other, (word,)) is None:
            found.append(told(other))
    return found


class ChainTest(unittest.TestCase):
    def test_single_ones(self):
        chain = Chain()
        self.assertEqual(chain_paper(chain), "")
        chain.add((0, 0, -4), as_point("1/2", 0, -3), (2, -4))
        self.assertEqual(chain_paper(chain), "0 0 -4 1/2 0 -3 -1:2")
        chain.add((1, 2, 3), as_point(0, 0, 0), (-5, 0))
        self.assertEqual(chain_paper(chain), "0 0 -4 1/2 0 -3 -1:2; 1 2 3 0 0 0 1:0")
        told = chain_of("0 0 -4 1/2 0 -3 -1:2; 1 2 3 0 0 0 1:0")
        self.assertIsInstance(told, Chain)
        self.assertEqual(told.joints(), [((0, 0, -4), as_point("1/2", 0, -3), (-1, 2)), ((1, 2, 3), as_point(0, 0, 0), (1, 0))])

    def test_no_joints(self):
        chain = chain_of("")
        self.assertIsInstance(chain, Chain)
        self.assertEqual(everything(chain, chain_told), everything(Chain(), chain_told))
        self.assertIs(do(chain, ("back",)), NoDeed)

    def test_read_back(self):
        chains = [some_chain(seed, seed % 7) for seed in range(28)] + [great_chain(861, 6)]
        chains += [filled(Chain, chain_deed, seed, 20)[0] for seed in range(10)]
        for chain in chains:
            before = everything(chain, chain_told)
            paper = chain_paper(chain)
            self.assertEqual(everything(chain, chain_told), before)
            told = chain_of(paper)
            self.assertEqual(chain_told(told), chain_told(chain))
            self.assertEqual(chain_paper(told), paper)

    def test_the_deeds_of_a_chain_that_was_read(self):
        """One add for each joint, whatever was done to the one that was written."""
        for seed in range(10):
            chain = filled(Chain, chain_deed, seed, 25)[0]
            chain.back()
            told = chain_of(chain_paper(chain))
            anew = Chain()
            for way, arm, setting in chain.joints():
                anew.add(way, arm, setting)
            self.assertEqual(everything(told, chain_told), everything(anew, chain_told))
            self.assertIs(do(told, ("again",)), NoDeed)
            for number in range(len(chain.joints())):
                told.back()
            self.assertEqual(told.joints(), [])
            self.assertIs(do(told, ("back",)), NoDeed)

    def test_rows_of_deeds_behind_reading(self):
        for seed in range(15):
            chance = random.Random(seed)
            start = some_chain(seed, seed % 7)
            told = chain_of(chain_paper(start))
            for number in range(25):
                deed = chance.choice([chain_deed(chance), chain_deed(chance), ("back",), ("again",)])
                self.assertIs(do(told, deed), do(start, deed))
                self.assertEqual(chain_told(told), chain_told(start))

    def test_refused(self):
        wrong = [
            " ", ";", "; ", "; " + JOINT, JOINT + "; ", JOINT + ";", JOINT + " ", " " + JOINT, JOINT + ";" + JOINT, JOINT + " ; " + JOINT,
            JOINT + ";  " + JOINT, JOINT + "; ; " + JOINT, JOINT + "\n", JOINT + ", " + JOINT, "; ".join([JOINT] * 7), "; ".join([JOINT] * 400),
            JOINT + "; " + JOINT + "x", "; " * 15000, "0" * 30000,
            "0 0 1 1/2 0 -3", "0 0 1 1/2 0 -3 1:2 0", "0 0 1 1/2 0 1:2", "0 1 1/2 0 -3 1:2", "0 0 1 1/2 0 -3 1 2", "1:2 0 0 1 1/2 0 -3",
            "0 0 0 1/2 0 -3 1:2", "0 0 1/2 1/2 0 -3 1:2", "0 0 1 1/1 0 -3 1:2", "0 0 1 2/4 0 -3 1:2", "0 0 01 1/2 0 -3 1:2", "0 0 +1 1/2 0 -3 1:2",
            "0 0 1 1/2 -0 -3 1:2", "0 0 1 1/2 0 -3 0:0", "0 0  1 1/2 0 -3 1:2", "0 0 1  1/2 0 -3 1:2", "0 0 1 1/2 0 -3  1:2", "0 0 1 1/0 0 -3 1:2",
            "0 0 1 1/2 0 -3 2:4", "0 0 1 1/2 0 -3 1:-2", "0 0 1 1/2 0 -3 -1:0", "0 0 1 1/2 0 -3 2:0", "0 0 1 1/2 0 -3 0:2", "0 0 1 1/2 0 -3 0:-1",
            "0 0 1 1/2 0 -3 -3:-3", "0 0 1 1/2 0 -3 1:02", "0 0 1 1/2 0 -3 1:1" + LONG, f"0 0 1{LONG} 0 0 0 1:2", "a 1 0 0 0",
        ]
        for text in wrong:
            with self.assertRaises(NoText, msg=text[:60]):
                chain_of(text)
            if text.count("; ") == 0:
                with self.assertRaises(NoText, msg=text[:60]):
                    chain_of(JOINT + "; " + text)

    def test_six_joints_of_many_figures(self):
        joint = f"{LONG} 0 -{LONG} 1/{LONG} 0 -{LONG}/1{'0' * 1499} {LONG}:1{'0' * 1499}"
        for many in (1, 6):
            text = "; ".join([joint] * many)
            self.assertEqual(chain_paper(chain_of(text)), text)


class BodyTest(unittest.TestCase):
    def test_single_ones(self):
        body = Body()
        self.assertEqual(body_paper(body), "1 0 0 0")
        body.mark("b")
        body.room((2, 2, 0, 0))
        self.assertEqual(body_paper(body), "1 1 0 0; b 1 0 0 0")
        body.mark("a")
        body.own((0, 0, 0, -3))
        self.assertEqual(body_paper(body), "0 0 1 -1; a 1 1 0 0; b 1 0 0 0")
        told = body_of("0 0 1 -1; a 1 1 0 0; b 1 0 0 0")
        self.assertIsInstance(told, Body)
        self.assertEqual(body_told(told)[:3], ((0, 0, 1, -1), [("a", (1, 1, 0, 0)), ("b", NOTHING)], [(0, 0, 1, -1)]))
        self.assertEqual(told.since("a"), then((1, -1, 0, 0), (0, 0, 1, -1)))

    def test_read_back(self):
        for seed in range(25):
            body = filled(Body, body_deed, seed, seed + 5)[0]
            body.back()
            before = everything(body, body_told)
            paper = body_paper(body)
            self.assertEqual(everything(body, body_told), before)
            told = body_of(paper)
            self.assertEqual((told.stand(), told.marks()), (body.stand(), body.marks()))
            self.assertEqual(body_paper(told), paper)
            # It has done no deed.
            self.assertEqual(told.path(), [body.stand()])
            for word in ["back", "again"]:
                self.assertIs(do(told, (word,)), NoDeed)
            self.assertEqual((told.stand(), told.marks(), told.path()), (body.stand(), body.marks(), [body.stand()]))

    def test_deeds_behind_reading(self):
        body = body_of("1 1 0 0; a 2 0 0 1; c 1 0 0 0")
        body.room((1, 0, 1, 0))
        body.mark("a")
        body.mark("b")
        body.to("c")
        self.assertEqual(body.path(), [(1, 1, 0, 0), (1, 1, 1, -1), (1, 1, 1, -1), (1, 1, 1, -1), NOTHING])
        other = body.twin()
        for number in range(4):
            body.back()
        self.assertEqual(body_paper(body), "1 1 0 0; a 2 0 0 1; c 1 0 0 0")
        self.assertEqual(body.path(), [(1, 1, 0, 0)])
        self.assertIs(do(body, ("back",)), NoDeed)
        for number in range(4):
            body.again()
        self.assertEqual(body_told(body), body_told(other))
        self.assertEqual(body_paper(other), "1 0 0 0; a 1 1 1 -1; b 1 1 1 -1; c 1 0 0 0")

    def test_rows_of_deeds_behind_reading(self):
        for seed in range(15):
            chance = random.Random(seed)
            paper = body_paper(filled(Body, body_deed, seed, 12)[0])
            body = body_of(paper)
            done, gone = [], []
            for number in range(25):
                deed = chance.choice([body_deed(chance), body_deed(chance), ("back",), ("again",)])
                if do(body, deed) is None:
                    if deed == ("back",):
                        gone.append(done.pop())
                    elif deed == ("again",):
                        done.append(gone.pop())
                    else:
                        done.append(deed)
                        gone = []
                anew = body_of(paper)
                for again in done:
                    do(anew, again)
                self.assertEqual(body_told(body), body_told(anew))

    def test_refused(self):
        good = "1 1 0 0; a 2 0 0 1; c 1 0 0 0"
        wrong = [
            "", " ", ";", "; ", good + "; ", "; " + good, good + ";", good + " ", " " + good, good.replace("; ", ";"), good.replace("; ", " ; "),
            good.replace("; ", ";  "), good.replace("; ", ", "), good + "\n", "a 1 0 0 0", "1 0 0 0; 1 0 0 0", "1 0 0 0 a 1 0 0 0",
            "2 2 0 0", "-1 0 0 0", "0 -1 0 0", "0 0 0 0", "1 0 0", "1 0 0 0 0", "1 0 0 1/2", "01 0 0 0", "1 0 0 -0", "+1 0 0 0", "1  0 0 0", "a",
            "1 0 0 0; a 2 2 0 0", "1 0 0 0; a -1 0 0 0", "1 0 0 0; a 0 0 0 0", "1 0 0 0; a 1 0 0", "1 0 0 0; a 1 0 0 0 0", "1 0 0 0; a  1 0 0 0",
            "1 0 0 0; a", "1 0 0 0; a ", "1 0 0 0;  1 0 0 0", "1 0 0 0; A 1 0 0 0", "1 0 0 0; a1 1 0 0 0", "1 0 0 0; abcdefghi 1 0 0 0",
            "1 0 0 0; a 1 0 0 0; a 1 0 0 0", "1 0 0 0; a 1 0 0 0; a 1 1 0 0", "1 0 0 0; b 1 0 0 0; a 1 0 0 0", "1 0 0 0; a 1 0 0 0; b 1 0 0 0; a 1 0 0 0",
            "1 0 0 0; ab 1 0 0 0; aa 1 0 0 0", "1 0 0 0; aa 1 0 0 0; a 1 0 0 0", "1 0 0 0; a 01 0 0 0", "1 0 0 0; a 1 0 0 0; ", "1 0 0 0; 1 a 0 0 0",
            f"1{LONG} 1 0 0", f"1 0 0 0; a 1{LONG} 1 0 0", "; " * 15000, " " * 30000, JOINT,
        ]
        for text in wrong:
            with self.assertRaises(NoText, msg=text[:60]):
                body_of(text)

    def test_many_marks_and_figures(self):
        names = sorted(a + b + c for a in "abcdefghijklm" for b in "abcdefghij" for c in "abcdefghij")
        text = "; ".join(["1 2 3 4"] + [f"{name} 1 0 0 {number}" for number, name in enumerate(names)])
        self.assertEqual(body_paper(body_of(text)), text)
        text = f"{LONG} -{LONG} 0 1; a {LONG} 1 -{LONG} 0; abcdefgh 0 1 {LONG} -{LONG}; b 1 0 0 0"
        self.assertEqual(body_paper(body_of(text)), text)


class AnyTextTest(unittest.TestCase):
    def test_a_text_is_read_to_just_what_it_is_the_paper_of(self):
        chance = random.Random(862)
        papers = [chain_paper(some_chain(seed, seed % 4)) for seed in range(12)]
        papers += [body_paper(filled(Body, body_deed, seed, 8)[0]) for seed in range(12)]
        signs = "0123456789-/:; ab+"
        read = 0
        for number in range(6000):
            text = chance.choice(papers)
            for change in range(chance.randint(0, 2)):
                place = chance.randint(0, len(text))
                text = text[:place] + chance.choice(["", chance.choice(signs)]) + text[place + chance.randint(0, 1):]
            for reader, writer in [(chain_of, chain_paper), (body_of, body_paper)]:
                try:
                    thing = reader(text)
                except NoText:
                    continue
                read += 1
                self.assertEqual(writer(thing), text)
        self.assertGreater(read, 2000)

    def test_great_numbers_that_were_told(self):
        body = Body()
        four = helpers.some_fours(863, 1, BIG)[0]
        while max(len(str(abs(entry))) for entry in body.stand()) < 1400:
            body.mark("here")
            body.room(four)
        told = body_of(body_paper(body))
        self.assertEqual((told.stand(), told.marks()), (body.stand(), body.marks()))


if __name__ == "__main__":
    unittest.main()
