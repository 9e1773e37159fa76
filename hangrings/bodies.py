"""Bodies that are turned and turned back, and keep their stands by names."""

from hangrings.deeds import Deeds
from hangrings.errors import NoMark, NoName
from hangrings.fours import NOTHING, back, then

LETTERS = "abcdefghijklmnopqrstuvwxyz"
LONGEST_NAME = 8


def is_name(name):
    return 1 <= len(name) and len(name) <= LONGEST_NAME and all([letter in LETTERS for letter in name])


def refuse_no_name(name):
    if not is_name(name):
        raise NoName("a name is one to eight small letters a to z")


# Behind each deed stand the body's stand and its marks, tuples of a name and a
# stand in the order of the names.
class Body(Deeds):
    def __init__(self):
        Deeds.__init__(self, (NOTHING, ()))

    # In the place of all deeds: the body stands so from the beginning.
    def begin(self, stand, marks):
        self.done = [(stand, tuple(marks))]
        self.gone = []

    def stand(self):
        return self.latest()[0]

    def marks(self):
        return list(self.latest()[1])

    def path(self):
        return [made[0] for made in self.done]

    def turn_to(self, four):
        self.do((four, self.latest()[1]))

    def room(self, four):
        self.turn_to(then(self.stand(), four))

    def own(self, four):
        self.turn_to(then(four, self.stand()))

    def mark(self, name):
        refuse_no_name(name)
        others = [kept for kept in self.latest()[1] if kept[0] != name]
        self.do((self.stand(), tuple(sorted(others + [(name, self.stand())]))))

    def kept_by(self, name):
        refuse_no_name(name)
        found = [kept[1] for kept in self.latest()[1] if kept[0] == name]
        if len(found) == 0:
            raise NoMark("no stand is kept by this name")
        return found[0]

    def to(self, name):
        self.turn_to(self.kept_by(name))

    def since(self, name):
        return then(back(self.kept_by(name)), self.stand())

    def twin(self):
        other = Body()
        self.hand_deeds_to(other)
        return other
