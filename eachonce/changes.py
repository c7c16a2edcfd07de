"""Boxes made of boxes: two side by side, one named anew, one with mays made musts."""

from eachonce.boxes import MOST_PIECES, MOST_THINGS, picked
from eachonce.errors import NoOrder, TooMany
from eachonce.kinds import is_whole


def moved_on(lot, things):
    return tuple([thing + things for thing in lot])


def side_by_side(one, other):
    things = one[0] + other[0]
    if things > MOST_THINGS or len(one[2]) + len(other[2]) > MOST_PIECES:
        raise TooMany("there would be more than 16 things or 32 pieces")
    pieces = tuple([(moved_on(piece[0], one[0]), piece[1]) for piece in other[2]])
    return (things, one[1] + moved_on(other[1], one[0]), one[2] + pieces)


def is_order(thing, many):
    # What is no whole number may not be comparable, so all are looked at ahead of the sorting.
    if not isinstance(thing, tuple) or len(thing) != many or not all([is_whole(number) for number in thing]):
        return False
    return sorted(thing) == list(range(many))


def named_anew(box, things, pieces):
    if not is_order(things, box[0]):
        raise NoOrder("this is no order of the things")
    if not is_order(pieces, len(box[2])):
        raise NoOrder("this is no order of the pieces")
    return picked(box, things, pieces)


def all_musts(box):
    pieces = box[2] + tuple([((may,), 0) for may in box[1]])
    if len(pieces) > MOST_PIECES:
        raise TooMany("there would be more than 32 pieces")
    return (box[0], (), pieces)
