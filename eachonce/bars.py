"""Bars, lots of things that stand in the way of a covering, and mends, lots without which there is one."""

from eachonce.boxes import picked
from eachonce.coverings import many
from eachonce.errors import NoThing, TooMany
from eachonce.kinds import is_lot, lot_of

MOST_THINGS_WITH_BARS = 9


def have_common(one, other):
    return any([thing in other for thing in one])


def narrowed(box, lot):
    if not is_lot(lot, box[0]):
        raise NoThing("this is no lot of the box")
    return picked(box, lot, [number for number, piece in enumerate(box[2]) if have_common(piece[0], lot)])


def is_bar(box, lot):
    return many(narrowed(box, lot)) == 0


def is_within(lot, other):
    return all([thing in other for thing in lot])


def least_lots(things, holds):
    # What holds of a lot holds of all in which it is; so those are passed over, and a lot that is asked of is least.
    least = []
    for lot in sorted([lot_of(mask) for mask in range(1 << things)], key=lambda one: (len(one), one)):
        if not any([is_within(shorter, lot) for shorter in least]) and holds(lot):
            least.append(lot)
    return least


def least_bars(box):
    if box[0] > MOST_THINGS_WITH_BARS:
        raise TooMany("there are more than nine things")
    return least_lots(box[0], lambda lot: is_bar(box, lot))


def least_mends(box):
    # What a mend lacks is no bar, so it has no least bar in it: the mend shares a thing with each.
    bars = least_bars(box)
    return least_lots(box[0], lambda lot: all([have_common(lot, bar) for bar in bars]))
