"""How high a chain's tip stands upon a way, and the settings that bring it there."""

from hangrings.axes import plain_setting
from hangrings.chains import arm_from, tip_of, turn_of
from hangrings.fours import back, level_turned
from hangrings.reckon import cross_product, exact_root, levelled, levels_added, reduced, sum_of_products


def level_height(level, way):
    return (sum_of_products(level[0], way), level[1])


def height(point, way):
    return reduced(level_height(levelled(point), way))


# The way as it is seen from the stand behind these joints.
def way_behind(joints, way):
    seen = (way, 1)
    for joint in joints:
        seen = level_turned(back(turn_of(joint)), seen)
    return seen


# (p, q, r) such that just by those settings (k, l) the height is the fraction
# for which p l l + 2 q k l + r k k is 0.
def form_of_height(joints, joint, way, fraction):
    about_way = joints[joint][0]
    arm = arm_from(joints, joint)
    seen = way_behind(joints[:joint], way)
    place = level_height(tip_of(joints[:joint]), way)
    bottom = fraction[1] * place[1]
    lift = (fraction[0] * place[1] - place[0] * fraction[1]) * arm[1] * seen[1]
    still = sum_of_products(seen[0], arm[0]) * bottom
    across = sum_of_products(seen[0], cross_product(about_way, arm[0])) * bottom
    along = sum_of_products(about_way, arm[0]) * sum_of_products(about_way, seen[0]) * bottom
    return (still - lift, across, 2 * along - sum_of_products(about_way, about_way) * (still + lift))


def settings_of_form(form):
    if form[0] == 0:
        return [(0, 1), (2 * form[1], -form[2])]
    square = form[1] * form[1] - form[0] * form[2]
    root = None if square < 0 else exact_root(square)
    if root is None:
        return []
    return [(form[0], -form[1] - root), (form[0], root - form[1])]


def heights(chain, joint, way, fraction):
    chain.refuse_no_joint(joint)
    form = form_of_height(chain.joints(), joint, way, fraction)
    if form == (0, 0, 0):
        return ("any",)
    found = sorted(set([plain_setting(setting) for setting in settings_of_form(form)]))
    return ("none",) if len(found) == 0 else ("at", found)
