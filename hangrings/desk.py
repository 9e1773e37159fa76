"""A desk that keeps fours by names, a body and a chain, and is told lines."""

from hangrings.axes import axis, comes_back, rest
from hangrings.bodies import Body
from hangrings.calm import step
from hangrings.chains import Chain
from hangrings.errors import NoKept, TooMany
from hangrings.fours import back, plain, then, turned
from hangrings.groups import group_of
from hangrings.halves import half
from hangrings.hangers import hung, settings_of
from hangrings.leading import led
from hangrings.lines import read_line
from hangrings.swings import parted
from hangrings.texts import most_figures, show_four, show_number, show_point, show_row, show_setting, show_way
from hangrings.whole import kept_rows

MOST_OF_FOUR = 200
MOST_OF_SETTING = 60


def refuse_great(numbers, most):
    if most_figures(numbers) > most:
        raise TooMany("a number would have too many figures")


def keep(desk, name, four):
    refuse_great(four, MOST_OF_FOUR)
    desk.fours[name] = four
    return "ok"


def say_keep(desk, things):
    return keep(desk, things[0], plain(things[1]))


def say_then(desk, things):
    return keep(desk, things[0], then(things[1], things[2]))


def say_back(desk, things):
    return keep(desk, things[0], back(things[1]))


def say_half(desk, things):
    found = half(things[1])
    if found is None:
        return "none"
    return keep(desk, things[0], found)


def say_names(desk, things):
    return " ".join(sorted(desk.fours))


def say_show(desk, things):
    return show_four(things[0])


def say_axis(desk, things):
    found = axis(things[0])
    return "none" if found is None else show_way(found)


def say_rest(desk, things):
    return show_number(rest(things[0]))


def say_comes(desk, things):
    count = comes_back(things[0])
    return "never" if count is None else str(count)


def say_turn(desk, things):
    return show_point(turned(things[0], things[1]))


def say_parted(desk, things):
    told = parted(things[1], things[0])
    if told[0] == "lock":
        return "lock"
    return " ".join(["swing", show_four(told[1]), "twist", show_four(told[2])])


def say_hang(desk, things):
    return show_four(hung(things[0], tuple(things[1:])))


def say_set(desk, things):
    told = settings_of(things[0], things[1])
    if told[0] == "none":
        return "none"
    if told[0] == "lock":
        return " ".join(["lock", show_setting(told[1]), told[2], show_setting(told[3])])
    return " ".join(["set"] + [show_setting(setting) for setting in told[1] + told[2]])


def say_led(desk, things):
    return led(things[0], things[1])[0]


def say_group(desk, things):
    told = group_of(things)
    if told[0] == "endless":
        return "endless"
    return "group " + str(len(told[1]))


def say_kept(desk, things):
    rows = kept_rows(things)
    return show_row(rows[0] + rows[1] + rows[2])


def say_step(desk, things):
    return show_number(step(things, 0, 1))


def say_room(desk, things):
    refuse_great(then(desk.body.stand(), things[0]), MOST_OF_FOUR)
    desk.body.room(things[0])
    return "ok"


def say_own(desk, things):
    refuse_great(then(things[0], desk.body.stand()), MOST_OF_FOUR)
    desk.body.own(things[0])
    return "ok"


def say_mark(desk, things):
    desk.body.mark(things[0])
    return "ok"


# Only stands that were small enough are kept by the body: none is too great.
def say_to(desk, things):
    desk.body.to(things[0])
    return "ok"


def say_undo(desk, things):
    desk.body.back()
    return "ok"


def say_redo(desk, things):
    desk.body.again()
    return "ok"


def say_stand(desk, things):
    return show_four(desk.body.stand())


def say_path(desk, things):
    return "; ".join([show_four(stand) for stand in desk.body.path()])


# A setting that stands in a line is short, and making it plain makes it no longer.
def say_joint(desk, things):
    desk.chain.add(things[0], things[1], things[2])
    return "ok"


def say_off(desk, things):
    desk.chain.off()
    return "ok"


def say_bend(desk, things):
    desk.chain.bend(things[0], things[1])
    return "ok"


def short_reach(desk, things):
    told = desk.chain.reach(things[0], things[1])
    if told[0] == "only":
        refuse_great(told[1], MOST_OF_SETTING)
    return told


def say_lead(desk, things):
    short_reach(desk, things)
    desk.chain.lead(things[0], things[1])
    return "ok"


def say_unbend(desk, things):
    desk.chain.back()
    return "ok"


def say_rebend(desk, things):
    desk.chain.again()
    return "ok"


def say_tip(desk, things):
    return show_point(desk.chain.tip())


def say_reach(desk, things):
    told = short_reach(desk, things)
    if told[0] == "only":
        return "only " + show_setting(told[1])
    return told[0]


ANSWERS = {
    "keep": say_keep,
    "then": say_then,
    "back": say_back,
    "half": say_half,
    "names": say_names,
    "show": say_show,
    "axis": say_axis,
    "rest": say_rest,
    "comes": say_comes,
    "turn": say_turn,
    "parted": say_parted,
    "hang": say_hang,
    "set": say_set,
    "led": say_led,
    "group": say_group,
    "kept": say_kept,
    "step": say_step,
    "room": say_room,
    "own": say_own,
    "mark": say_mark,
    "to": say_to,
    "undo": say_undo,
    "redo": say_redo,
    "stand": say_stand,
    "path": say_path,
    "joint": say_joint,
    "off": say_off,
    "bend": say_bend,
    "lead": say_lead,
    "unbend": say_unbend,
    "rebend": say_rebend,
    "tip": say_tip,
    "reach": say_reach,
}


class Desk:
    def __init__(self):
        self.fours = {}
        self.body = Body()
        self.chain = Chain()

    def say(self, line):
        told = read_line(line)
        answer = ANSWERS[told[0]]
        return answer(self, self.looked_up(told[1], told[2]))

    def looked_up(self, form, things):
        found = []
        for kind, thing in zip(form, things):
            if kind == "kept":
                if thing not in self.fours:
                    raise NoKept("no four is kept by this name")
                found.append(self.fours[thing])
            else:
                found.append(thing)
        return found
