"""Papers: chains and bodies written as texts, and read again."""

from hangrings.axes import plain_setting
from hangrings.bodies import Body, is_name
from hangrings.chains import MOST_JOINTS, Chain
from hangrings.errors import NoText
from hangrings.fours import plain
from hangrings.texts import (
    parts_of, read_four, read_point, read_setting, read_way, show_four, show_point, show_setting, show_way,
)


def joint_paper(joint):
    return " ".join([show_way(joint[0]), show_point(joint[1]), show_setting(joint[2])])


def chain_paper(chain):
    return "; ".join([joint_paper(joint) for joint in chain.joints()])


def body_paper(body):
    marks = [mark[0] + " " + show_four(mark[1]) for mark in body.marks()]
    return "; ".join([show_four(body.stand())] + marks)


def joint_of(text):
    words = parts_of(text, " ", 7)
    way = read_way(" ".join(words[:3]))
    arm = read_point(" ".join(words[3:6]))
    setting = read_setting(words[6])
    if plain_setting(setting) != setting:
        raise NoText("a joint's setting is plain")
    return (way, arm, setting)


def chain_of(text):
    chain = Chain()
    if text == "":
        return chain
    parts = text.split("; ")
    if len(parts) > MOST_JOINTS:
        raise NoText("a chain has at most six joints")
    for part in parts:
        joint = joint_of(part)
        chain.add(joint[0], joint[1], joint[2])
    return chain


def stand_of(text):
    four = read_four(text)
    if plain(four) != four:
        raise NoText("a stand is a plain four")
    return four


def mark_of(text):
    parts = text.partition(" ")
    if not is_name(parts[0]):
        raise NoText("a stand is kept by a name")
    return (parts[0], stand_of(parts[2]))


def body_of(text):
    parts = text.split("; ")
    stand = stand_of(parts[0])
    marks = [mark_of(part) for part in parts[1:]]
    names = [mark[0] for mark in marks]
    if names != sorted(set(names)):
        raise NoText("names come once each, in their order")
    body = Body()
    body.begin(stand, marks)
    return body
