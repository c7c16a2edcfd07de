"""Boxes turned smaller step by step, and their coverings led back and there."""

from eachonce.boxes import musts_of, picked
from eachonce.coverings import is_covering
from eachonce.errors import NoCovering
from eachonce.needs import behind, forced_next


def is_idle(box, number):
    held = box[2][number][0]
    for must in [thing for thing in musts_of(box) if thing not in held]:
        holders = [piece[0] for piece in box[2] if must in piece[0]]
        if any([all([thing in holder for holder in holders]) for thing in held]):
            return True
    return False


def least_idle(box):
    for number in range(len(box[2])):
        if is_idle(box, number):
            return number
    return None


def step_of(box):
    # The box behind the next step, told as it is in the end, by numbers of this box; None where no step is left.
    idle = least_idle(box)
    if idle is not None:
        things = tuple(range(box[0]))
        rest = tuple([number for number in range(len(box[2])) if number != idle])
        return (picked(box, things, rest), things, rest, ())
    lone = forced_next(box, 0)
    if lone is not None:
        return behind(box, (lone[1],)) + ((lone[1],),)
    return None


def traced(places, numbers):
    return tuple([numbers[place] for place in places])


def turned_smaller(box):
    told = (box, tuple(range(box[0])), tuple(range(len(box[2]))), ())
    step = step_of(box)
    while step is not None:
        taken = tuple(sorted(told[3] + traced(step[3], told[2])))
        told = (step[0], traced(step[1], told[1]), traced(step[2], told[2]), taken)
        step = step_of(told[0])
    return told


def led_back(box, covering):
    told = turned_smaller(box)
    if not is_covering(told[0], covering):
        raise NoCovering("this is no covering of the box in the end")
    return tuple(sorted(told[3] + traced(covering, told[2])))


def led_there(box, covering):
    if not is_covering(box, covering):
        raise NoCovering("this is no covering of the box at first")
    # It has the taken pieces, too, which are none of the box in the end.
    return tuple([place for place, number in enumerate(turned_smaller(box)[2]) if number in covering])
