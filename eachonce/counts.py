"""How many coverings there are: by their sizes, by their weights, and by lots of things."""

from eachonce.coverings import choices_of, gathered, many
from eachonce.errors import TooMany
from eachonce.kinds import mask_of

MOST_WEIGHED = 1000
MOST_THINGS_BY_LOTS = 10


def sizes_together(behind):
    # A list without counts stays out: a nought put ahead of it would tell of a size that no covering has.
    lists = [[0] + counts if number >= 0 else counts for number, counts in behind if len(counts) > 0]
    together = [0] * max([len(counts) for counts in lists], default=0)
    for counts in lists:
        for size, count in enumerate(counts):
            together[size] += count
    return together


def sizes(box):
    return gathered(choices_of(box), [1], sizes_together)[0]


def weights(box):
    if many(box) > MOST_WEIGHED:
        raise TooMany("there are more than 1000 coverings")

    def weights_together(behind):
        together = {}
        for number, counts in behind:
            more = box[2][number][1] if number >= 0 else 0
            for weight, count in counts.items():
                together[weight + more] = together.get(weight + more, 0) + count
        return together

    return sorted(gathered(choices_of(box), {0: 1}, weights_together)[0].items())


def ways_to_hold(lengths, total):
    ways = [1] + [0] * total
    for length in lengths:
        # Downwards, so that no piece is taken twice.
        for held in range(total, length - 1, -1):
            ways[held] += ways[held - length]
    return ways[total]


def many_by_lots(box):
    if box[0] > MOST_THINGS_BY_LOTS:
        raise TooMany("there are more than ten things")
    pieces = [piece[0] for piece in box[2]] + [(may,) for may in box[1]]
    marked = [(mask_of(things), len(things)) for things in pieces]
    together = 0
    for lot in range(1 << box[0]):
        ways = ways_to_hold([length for mask, length in marked if mask & ~lot == 0], box[0])
        lacked = len([thing for thing in range(box[0]) if lot >> thing & 1 == 0])
        together += ways if lacked % 2 == 0 else -ways
    return together
