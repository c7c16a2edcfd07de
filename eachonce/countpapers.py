"""Count papers: rows which show, each by those ahead of it, how many coverings there are."""

from eachonce.coverings import choices_at, choices_of, full_mask, ways_of
from eachonce.kinds import is_lot, is_whole, lot_of, mask_of


def is_row(thing, things):
    if not isinstance(thing, tuple) or len(thing) != 2:
        return False
    return is_lot(thing[0], things) and is_whole(thing[1])


def right_number(choices, mask, ahead):
    if mask == full_mask(choices):
        return 1
    together = 0
    for piece, more in choices_at(choices, mask):
        if mask | more not in ahead:
            return None
        together += ahead[mask | more]
    return together


def counted(box, paper):
    if not isinstance(paper, tuple) or len(paper) == 0 or not all([is_row(row, box[0]) for row in paper]):
        return None
    choices = choices_of(box)
    ahead = {}
    for lot, number in paper:
        mask = mask_of(lot)
        if mask in ahead or number != right_number(choices, mask, ahead):
            return None
        ahead[mask] = number
    return paper[-1][1] if len(paper[-1][0]) == 0 else None


def count_paper(box):
    # The ways are kept in the order in which they were found, those behind a lot ahead of its own.
    return tuple([(lot_of(mask), ways) for mask, ways in ways_of(choices_of(box)).items()])
