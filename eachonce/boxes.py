"""Boxes: what is one, which of its things are musts, and the boxes of a part of it."""

from eachonce.kinds import is_lot, is_whole

MOST_THINGS = 16
MOST_PIECES = 32


def is_weight(thing):
    return is_whole(thing) and -10 ** 12 <= thing <= 10 ** 12


def is_piece(thing, many):
    if not isinstance(thing, tuple) or len(thing) != 2:
        return False
    return is_lot(thing[0], many) and len(thing[0]) > 0 and is_weight(thing[1])


def are_pieces(thing, many):
    if not isinstance(thing, tuple) or len(thing) > MOST_PIECES:
        return False
    return all([is_piece(piece, many) for piece in thing])


def is_box(thing):
    if not isinstance(thing, tuple) or len(thing) != 3:
        return False
    many = thing[0]
    if not is_whole(many) or many < 0 or many > MOST_THINGS:
        return False
    return is_lot(thing[1], many) and are_pieces(thing[2], many)


def musts_of(box):
    mays = box[1]
    return [thing for thing in range(box[0]) if thing not in mays]


def picked(box, things, pieces):
    # A thing's new number is its place among these; what a piece holds besides them is cut off.
    places = dict([(thing, place) for place, thing in enumerate(things)])

    def named(lot):
        return tuple(sorted([places[thing] for thing in lot if thing in places]))

    return (len(things), named(box[1]), tuple([(named(box[2][piece][0]), box[2][piece][1]) for piece in pieces]))
