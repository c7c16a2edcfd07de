"""Coverings: which there are, and their numbers in the order of their ranks.

A lot is kept here as a mask, a whole number with a bit for each of its things. A walk goes from the lot without things
to the lot of all: at each lot it chooses for the least thing that the lot lacks, so walks and coverings are the same.
"""

from eachonce.errors import NoCovering
from eachonce.kinds import is_lot, mask_of


def is_covering(box, thing):
    if not is_lot(thing, len(box[2])):
        return False
    held = []
    for number in thing:
        held.extend(box[2][number][0])
    return all([held.count(one) <= 1 and (held.count(one) == 1 or one in box[1]) for one in range(box[0])])


def rank_of(box, covering):
    rank = [-1] * box[0]
    for number in covering:
        for thing in box[2][number][0]:
            rank[thing] = number
    return tuple(rank)


def choices_of(box):
    # A lot has all things ahead of the least that it lacks, so a piece that may be chosen there has that as its least.
    choices = [[(-1, 1 << thing)] if thing in box[1] else [] for thing in range(box[0])]
    for number, piece in enumerate(box[2]):
        choices[piece[0][0]].append((number, mask_of(piece[0])))
    return choices


def full_mask(choices):
    return (1 << len(choices)) - 1


def choices_at(choices, mask):
    least_lacked = (~mask & (mask + 1)).bit_length() - 1
    return [choice for choice in choices[least_lacked] if choice[1] & mask == 0]


def masks_met(choices):
    full = full_mask(choices)
    met = {0: True}
    waiting = [0]
    while len(waiting) > 0:
        mask = waiting.pop()
        if mask != full:
            for number, more in choices_at(choices, mask):
                if mask | more not in met:
                    met[mask | more] = True
                    waiting.append(mask | more)
    return sorted(met, reverse=True)


def gathered(choices, at_end, join):
    full = full_mask(choices)
    values = {}
    # A choice makes the mask a greater number, so walked downwards all that is behind a lot is known ahead of it.
    for mask in masks_met(choices):
        if mask == full:
            values[mask] = at_end
        else:
            values[mask] = join([(number, values[mask | more]) for number, more in choices_at(choices, mask)])
    return values


def ways_of(choices):
    return gathered(choices, 1, lambda behind: sum([ways for number, ways in behind]))


def many(box):
    return ways_of(choices_of(box))[0]


def covering_along(choices, ways, place):
    taken = []
    mask = 0
    while mask != full_mask(choices):
        for number, more in choices_at(choices, mask):
            if place < ways[mask | more]:
                taken.append(number)
                mask |= more
                break
            place -= ways[mask | more]
    return tuple(sorted([number for number in taken if number >= 0]))


def covering_at(box, number):
    choices = choices_of(box)
    ways = ways_of(choices)
    if number < 0 or number >= ways[0]:
        raise NoCovering("no covering has this number")
    return covering_along(choices, ways, number)


def first(box):
    choices = choices_of(box)
    ways = ways_of(choices)
    return covering_along(choices, ways, 0) if ways[0] > 0 else None


def place_of(choices, ways, rank):
    place = 0
    mask = 0
    for thing in range(len(rank)):
        if mask >> thing & 1 == 0:
            for number, more in choices_at(choices, mask):
                if number == rank[thing]:
                    mask |= more
                    break
                place += ways[mask | more]
    return place


def number_of(box, covering):
    if not is_covering(box, covering):
        raise NoCovering("this is no covering")
    choices = choices_of(box)
    return place_of(choices, ways_of(choices), rank_of(box, covering))


def next_behind(box, covering):
    if not is_covering(box, covering):
        raise NoCovering("this is no covering")
    choices = choices_of(box)
    ways = ways_of(choices)
    place = place_of(choices, ways, rank_of(box, covering)) + 1
    return covering_along(choices, ways, place) if place < ways[0] else None
