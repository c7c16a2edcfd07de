"""What must be: pieces in all coverings and in none, pieces taken by force, and the box behind some pieces."""

from eachonce.boxes import musts_of, picked
from eachonce.coverings import choices_of, gathered
from eachonce.errors import NoPiece
from eachonce.kinds import is_lot, lot_of, mask_of


def pieces_met(behind_here):
    # Masks of the pieces in some and in all of the coverings from here on; None where there is none.
    some = 0
    each = None
    for number, met in behind_here:
        if met is not None:
            more = 1 << number if number >= 0 else 0
            some |= met[0] | more
            each = met[1] | more if each is None else each & (met[1] | more)
    return None if each is None else (some, each)


def in_all(box):
    met = gathered(choices_of(box), (0, 0), pieces_met)[0]
    return list(range(len(box[2]))) if met is None else list(lot_of(met[1]))


def in_none(box):
    met = gathered(choices_of(box), (0, 0), pieces_met)[0]
    return [number for number in range(len(box[2])) if met is None or met[0] >> number & 1 == 0]


def forced_next(box, held):
    # The least must outside these things that just one piece outside them holds, with this piece.
    outside = [number for number, piece in enumerate(box[2]) if mask_of(piece[0]) & held == 0]
    for must in musts_of(box):
        holders = [number for number in outside if must in box[2][number][0]]
        # What is held already no piece outside holds.
        if len(holders) == 1:
            return (must, holders[0])
    return None


def forced(box):
    taken = []
    held = 0
    step = forced_next(box, held)
    while step is not None:
        taken.append(step)
        held |= mask_of(box[2][step[1]][0])
        step = forced_next(box, held)
    return taken


def behind(box, some):
    if not is_lot(some, len(box[2])):
        raise NoPiece("this is no rising tuple of numbers of pieces")
    held = []
    for number in some:
        held.extend(box[2][number][0])
    if len(set(held)) < len(held):
        raise NoPiece("two of these pieces share a thing")
    things = tuple([thing for thing in range(box[0]) if thing not in held])
    apart = [number for number, piece in enumerate(box[2]) if all([thing in things for thing in piece[0]])]
    return (picked(box, things, apart), things, tuple(apart))
