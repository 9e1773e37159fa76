"""Every name of the document's interface is there, with its arguments in their places."""

import importlib
import inspect
import unittest

from hangrings import errors

FUNCTIONS = {
    "fours": "plain(four) size(four) then(one,other) back(four) turned(four,point)",
    "tables": "table_of(four) is_turn(table) four_of(table)",
    "axes": "axis(four) rest(four) comes_back(four) about(way,setting) setting_about(way,four)",
    "swings": "parted(way,four)",
    "hangers": "hung(hanger,settings) settings_of(hanger,four)",
    "halves": "half(four)",
    "leading": "size_of(way) leads(one,other,four) led(one,other) led_both(first,second,third,fourth)",
    "groups": "word_turn(fours,word) group_of(fours) are_unlike(fours,words) is_group(fours) counts(fours) images(fours,point)"
              " stays(fours,point)",
    "whole": "kept_rows(fours) index(four)",
    "calm": "step(stands,one,other) calm(stands,one,other) is_calm(stands,one,other,places,rest,split) lots(stands,rest)",
    "chains": "Chain()",
    "bodies": "Body()",
    "texts": "show_number(fraction) show_four(four) show_way(way) show_point(point) show_table(table) show_setting(setting)"
             " read_number(text) read_four(text) read_way(text) read_point(text) read_table(text) read_setting(text)",
    "desk": "Desk()",
    "motions": "moved(motion,point) and_then(one,other) undone(motion) led_three(points,others) screw_of(motion)"
               " screwed(way,foot,slide,setting)",
    "mirrors": "mirrored(way,point) two_mirrors(one,other) other_mirror(four,way)",
    "keeping": "keeps(points)",
    "heights": "height(point,way) heights(chain,joint,way,fraction)",
    "papers": "chain_paper(chain) body_paper(body) chain_of(text) body_of(text)",
}
METHODS = {
    ("chains", "Chain"): "add(way,arm,setting) off() bend(joint,setting) joints() stands() places() tip() reach(joint,point)"
                         " lead(joint,point) back() again() twin()",
    ("bodies", "Body"): "room(four) own(four) mark(name) to(name) stand() marks() path() since(name) back() again() twin()",
    ("desk", "Desk"): "say(line)",
}


class InterfaceTest(unittest.TestCase):
    def check(self, holder, rows):
        for row in rows.split():
            name, arguments = row.rstrip(")").split("(")
            told = list(inspect.signature(getattr(holder, name)).parameters)
            self.assertEqual([argument for argument in told if argument != "self"], [a for a in arguments.split(",") if a], row)

    def test_functions(self):
        for module, rows in FUNCTIONS.items():
            self.check(importlib.import_module("hangrings." + module), rows)

    def test_methods(self):
        for (module, name), rows in METHODS.items():
            self.check(getattr(importlib.import_module("hangrings." + module), name), rows)

    def test_refusals(self):
        for name in "NoTurn NoHanger TooMany NoJoint NoReach NoDeed NoName NoMark NoText NoLine NoKept".split():
            kind = getattr(errors, name)
            self.assertEqual(kind.__bases__, (errors.TurnError,))
            self.assertEqual((str(kind()), str(kind("words"))), ("", "words"))
        self.assertEqual(errors.TurnError.__bases__, (ValueError,))


if __name__ == "__main__":
    unittest.main()
