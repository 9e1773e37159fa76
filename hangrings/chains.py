"""Chains of parts that hang on one another by joints."""

from hangrings.axes import about, are_along, plain_setting, setting_between
from hangrings.deeds import Deeds
from hangrings.errors import NoJoint, NoReach, TooMany
from hangrings.fours import NOTHING, back, level_turned, then
from hangrings.reckon import level_negated, levelled, levels_added, lowered

MOST_JOINTS = 6


def turn_of(joint):
    return about(joint[0], joint[2])


# Where these joints' tip is, seen from the stand and the place ahead of them.
def tip_of(joints):
    tip = ((0, 0, 0), 1)
    for joint in reversed(joints):
        tip = level_turned(turn_of(joint), levels_added(levelled(joint[1]), tip))
    return tip


# Where the tip is, seen from the stand behind this joint and the place ahead of it.
def arm_from(joints, joint):
    return levels_added(levelled(joints[joint][1]), tip_of(joints[joint + 1:]))


# The point as it is seen from the stand and the place behind these joints.
def seen_behind(joints, point):
    seen = levelled(point)
    for joint in joints:
        seen = levels_added(level_turned(back(turn_of(joint)), seen), level_negated(levelled(joint[1])))
    return seen


def reach_about(way, here, there):
    one = tuple([top * there[1] for top in here[0]])
    other = tuple([top * here[1] for top in there[0]])
    if are_along(way, one):
        return ("any",) if one == other else ("none",)
    setting = setting_between(way, one, other)
    return ("none",) if setting is None else ("only", setting)


class Chain(Deeds):
    def __init__(self):
        Deeds.__init__(self, ())

    def add(self, way, arm, setting):
        joints = self.latest()
        if len(joints) >= MOST_JOINTS:
            raise TooMany("a chain has at most six joints")
        self.do(joints + ((way, arm, plain_setting(setting)),))

    def off(self):
        joints = self.latest()
        if len(joints) == 0:
            raise NoJoint("the chain has no joint")
        self.do(joints[:-1])

    def refuse_no_joint(self, joint):
        if joint < 0 or joint >= len(self.latest()):
            raise NoJoint("the chain has no such joint")

    def bend(self, joint, setting):
        self.refuse_no_joint(joint)
        joints = self.latest()
        bent = (joints[joint][0], joints[joint][1], plain_setting(setting))
        self.do(joints[:joint] + (bent,) + joints[joint + 1:])

    def joints(self):
        return list(self.latest())

    def stands(self):
        found = []
        stand = NOTHING
        for joint in self.latest():
            stand = then(turn_of(joint), stand)
            found.append(stand)
        return found

    def places(self):
        joints = self.latest()
        return [lowered(tip_of(joints[:many])) for many in range(1, len(joints) + 1)]

    def tip(self):
        return lowered(tip_of(self.latest()))

    def reach(self, joint, point):
        self.refuse_no_joint(joint)
        joints = self.latest()
        return reach_about(joints[joint][0], arm_from(joints, joint), seen_behind(joints[:joint], point))

    def lead(self, joint, point):
        told = self.reach(joint, point)
        if told[0] == "none":
            raise NoReach("the joint alone can't lead the tip there")
        if told[0] == "only":
            self.bend(joint, told[1])
        else:
            self.do(self.latest())

    def twin(self):
        other = Chain()
        self.hand_deeds_to(other)
        return other
