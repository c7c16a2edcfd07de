"""The shop: a box that is kept while things and pieces come and go."""

from eachonce.bars import least_bars
from eachonce.boxes import MOST_PIECES, MOST_THINGS, is_weight, picked
from eachonce.coverings import many
from eachonce.errors import Held, NoDeed, NoPiece, NoThing, NoWeight, TooMany
from eachonce.kinds import is_lot
from eachonce.lightest import lightest


def all_but(number, count):
    return [other for other in range(count) if other != number]


class Shop:
    def __init__(self):
        self.kept = (0, (), ())
        # A box is never changed, so those ahead of each deed are all that undoing needs.
        self.earlier = []

    def become(self, changed):
        self.earlier.append(self.kept)
        self.kept = changed

    def put_thing(self, must):
        thing = self.kept[0]
        if thing >= MOST_THINGS:
            raise TooMany("there are 16 things")
        mays = self.kept[1] if must else self.kept[1] + (thing,)
        self.become((thing + 1, mays, self.kept[2]))
        return thing

    def put_piece(self, things, weight):
        pieces = self.kept[2]
        if len(pieces) >= MOST_PIECES:
            raise TooMany("there are 32 pieces")
        if not is_lot(things, self.kept[0]) or len(things) == 0:
            raise NoThing("this is no lot of one thing or more")
        if not is_weight(weight):
            raise NoWeight("this is no weight")
        self.become((self.kept[0], self.kept[1], pieces + ((things, weight),)))
        return len(pieces)

    def turn_thing(self, thing):
        self.refuse_no_thing(thing)
        mays = self.kept[1]
        turned = [may for may in mays if may != thing] if thing in mays else sorted(mays + (thing,))
        self.become((self.kept[0], tuple(turned), self.kept[2]))

    def take_thing(self, thing):
        self.refuse_no_thing(thing)
        if any([thing in piece[0] for piece in self.kept[2]]):
            raise Held("some piece holds this thing")
        self.become(picked(self.kept, all_but(thing, self.kept[0]), list(range(len(self.kept[2])))))

    def take_piece(self, piece):
        count = len(self.kept[2])
        if not is_lot((piece,), count):
            raise NoPiece("there is no such piece")
        self.become(picked(self.kept, list(range(self.kept[0])), all_but(piece, count)))

    def refuse_no_thing(self, thing):
        if not is_lot((thing,), self.kept[0]):
            raise NoThing("there is no such thing")

    def undo(self):
        if len(self.earlier) == 0:
            raise NoDeed("no deed is left")
        self.kept = self.earlier.pop()

    def box(self):
        return self.kept

    def many(self):
        return many(self.kept)

    def lightest(self):
        return lightest(self.kept)

    def least_bars(self):
        return least_bars(self.kept)
