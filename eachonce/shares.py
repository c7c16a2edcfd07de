"""Shares: fractions of pieces that would do, or what speaks against them.

Both come of one table, turned until no column makes it cheaper. It has a row for each thing and one more for the costs;
a column for each piece, one for each thing (what the pieces leave of it), and, but for the costs, the right side as the
last one. All its entries are whole numbers above one bottom that they have in common.
"""

from eachonce.boxes import musts_of
from eachonce.kinds import fraction_of, is_fraction, is_whole, sum_of


def are_shares(box, thing):
    if not isinstance(thing, tuple) or len(thing) != len(box[2]):
        return False
    if not all([is_fraction(share) and share[0] >= 0 for share in thing]):
        return False
    for one in range(box[0]):
        held = sum_of([share for share, piece in zip(thing, box[2]) if one in piece[0]])
        if held[0] > held[1] or (held[0] < held[1] and one not in box[1]):
            return False
    return True


def speaks_against(box, thing):
    if not isinstance(thing, tuple) or len(thing) != box[0] or not all([is_whole(number) for number in thing]):
        return False
    if any([thing[may] > 0 for may in box[1]]):
        return False
    return sum(thing) > 0 and all([sum([thing[one] for one in piece[0]]) <= 0 for piece in box[2]])


def first_table(box, lack):
    musts = musts_of(box)
    table = []
    for thing in range(box[0]):
        held = [1 if thing in piece[0] else 0 for piece in box[2]]
        table.append(held + [1 if other == thing else 0 for other in range(box[0])] + [1])
    # At first nothing is taken, so each piece saves what its musts cost while they lack.
    costs = [piece[1] - lack * len([must for must in musts if must in piece[0]]) for piece in box[2]]
    table.append(costs + [0] * box[0])
    return table


def column_to_take(table):
    # Of several columns and rows the least is taken: else the turning might come round to where it was.
    for column, cost in enumerate(table[-1]):
        if cost < 0:
            return column
    return None


def row_to_give(table, taken, column):
    best = None
    for row in range(len(taken)):
        if table[row][column] > 0:
            if best is None:
                best = row
            here = table[row][-1] * table[best][column]
            there = table[best][-1] * table[row][column]
            if here < there or (here == there and taken[row] < taken[best]):
                best = row
    return best


def turned(table, bottom, row, column):
    # The old bottom divides without rest, and the entry at the turn is the new one.
    turn = table[row][column]
    told = []
    for place, entries in enumerate(table):
        if place == row:
            told.append(entries)
        else:
            factor = entries[column]
            told.append([(entry * turn - factor * other) // bottom for entry, other in zip(entries, table[row])])
    return told


def balanced(box, lack):
    # The fractions of pieces of the least cost, where each must costs `lack` times what it lacks, then the prices of
    # the things which show that nothing costs less: both as whole numbers above the bottom that comes last.
    pieces = len(box[2])
    table = first_table(box, lack)
    taken = list(range(pieces, pieces + box[0]))
    bottom = 1
    column = column_to_take(table)
    while column is not None:
        row = row_to_give(table, taken, column)
        table = turned(table, bottom, row, column)
        bottom = table[row][column]
        taken[row] = column
        column = column_to_take(table)
    parts = [table[taken.index(piece)][-1] if piece in taken else 0 for piece in range(pieces)]
    most = [0 if thing in box[1] else lack * bottom for thing in range(box[0])]
    prices = [most[thing] - table[-1][pieces + thing] for thing in range(box[0])]
    return (parts, prices, bottom)


def shares(box):
    unweighed = (box[0], box[1], tuple([(piece[0], 0) for piece in box[2]]))
    told = balanced(unweighed, 1)
    # The prices together are what the musts lack at least.
    if sum(told[1]) > 0:
        return ("against", tuple(told[1]))
    return ("shares", tuple([fraction_of(part, told[2]) for part in told[0]]))
