"""What several tests ask with: odd things, small and big boxes, their coverings found one by one, and refusals."""

import itertools
import random
import time
from fractions import Fraction

from eachonce.errors import (
    Held, NoCovering, NoDeed, NoOrder, NoPiece, NoRow, NoText, NoThing, NoWeight, OnceError, TooMany,
)

REFUSALS = (NoText, NoCovering, TooMany, NoThing, NoPiece, NoWeight, NoOrder, Held, NoDeed, NoRow)
LONGEST = 10 ** 60 - 1
# Far above what any of these takes, far below what going through all coverings takes.
SOON = 10


def nested(wrap, core, depth):
    for _ in range(depth):
        core = wrap(core)
    return core


def deep_things():
    wraps = (lambda x: [x], lambda x: (x,), lambda x: {0: x}, lambda x: {"k": [x]}, lambda x: ((x,), 0))
    depths = (60, 60, 60, 30, 30)
    return [nested(wrap, core, depth - 5) for wrap, depth in zip(wraps, depths) for core in (0, None, ())]


def wide_things():
    return [
        list(range(9990)), tuple(range(9990)), (0,) * 9990, {number: number for number in range(4900)},
        (((0,), 0),) * 2400, "0" * 9990,
    ]


def odd_things():
    """Things that are neither a box nor a part of one, nor a covering."""
    return [
        None, LONGEST, -LONGEST, "", "0", "things 0", "\n", [], [0], [[]], [1, (), ()], {}, {0: 0}, {(): ()},
        {"many": 1}, (None,), ("",), ([],), ({},), ((),), ((), ()), ((), (), ()), (None, None, None), ("", "", ""),
        ([], [], []), (1, {}, ()), (1, (), {}), (1, "", ""), (1, None, None), (True, False, None),
    ] + deep_things() + wide_things()


NO_FRACTIONS = (
    (2, 2), (0, 2), (2, 4), (-2, 4), (0, 0), (1, 0), (-1, 0), (1, -1), (-1, -1), (0, -1), (True, 1), (1, True),
    (False, 1), (1,), (), (1, 1, 1), [1, 1], [0, 1], 1, 0, None, "1", "11", ("1", "1"), {}, {0: 1}, (None, 1),
    ((0, 1), 1), True, False,
)


def is_fraction_by_words(thing):
    return (
        thing.__class__ is tuple and [part.__class__ for part in thing] == [int, int] and thing[1] >= 1
        and Fraction(*thing).denominator == thing[1]
    )


def rank(box, covering):
    return tuple([max([k for k in covering if thing in box[2][k][0]], default=-1) for thing in range(box[0])])


def covers(box, some):
    held = [thing for number in some for thing in box[2][number][0]]
    counts = [held.count(thing) for thing in range(box[0])]
    return all(count == 1 or count == 0 and thing in box[1] for thing, count in enumerate(counts))


def all_coverings(box):
    """By all sets of pieces, in the order of their ranks."""
    numbers = range(len(box[2]))
    sets = [some for size in range(len(box[2]) + 1) for some in itertools.combinations(numbers, size)]
    return sorted([some for some in sets if covers(box, some)], key=lambda some: rank(box, some))


def weight_of(box, some):
    return sum(box[2][number][1] for number in some)


HAND_MADE = (
    (0, (), ()),
    (1, (), ()),
    (1, (0,), ()),
    (3, (0, 1, 2), ()),
    (1, (), (((0,), 4),)),
    (1, (0,), (((0,), -4),)),
    (2, (1,), (((0,), 10 ** 12), ((0, 1), -10 ** 12), ((1,), 0))),
    # Pieces that are alike, and alike but for their weights.
    (2, (), (((0, 1), 3), ((0, 1), 3), ((0, 1), 2), ((0,), 1), ((1,), 1), ((1,), 1))),
    (1, (0,), (((0,), 1),) * 5),
    # No covering: a must that no piece holds; each two of three; pieces in one another's way.
    (2, (), (((0,), 1), ((0,), 1))),
    (3, (), (((0, 1), 1), ((1, 2), 1), ((0, 2), 1))),
    (4, (3,), (((0, 1), 1), ((1, 2), 1), ((2, 3), 1))),
    # The same with a may, so that there are some.
    (3, (1,), (((0, 1), 1), ((1, 2), 1), ((0, 2), 1), ((0,), -2), ((2,), 5))),
    # Numbers of pieces run against those of things.
    (4, (0, 2), (((3,), 1), ((2, 3), 2), ((1,), 3), ((1, 2), 4), ((0, 1), 5), ((0, 3), 6), ((0,), 7))),
    (6, (), (((4, 5), 1), ((0, 3), 1), ((1, 2), 1), ((0, 1), 2), ((2, 3), 2), ((0, 1, 2, 3), 4), ((4,), 0), ((5,), 0))),
)


def made_box(chance, things, pieces, longest):
    mays = tuple([thing for thing in range(things) if chance.random() < 0.4])
    made = []
    for _ in range(pieces if things else 0):
        held = chance.sample(range(things), chance.randint(1, min(longest, things)))
        made.append((tuple(sorted(held)), chance.randint(-4, 4)))
    return (things, mays, tuple(made))


def small_boxes():
    chance = random.Random(20261116)
    made = [made_box(chance, chance.randint(0, 6), chance.randint(0, 8), chance.randint(1, 4)) for _ in range(120)]
    return list(HAND_MADE) + made


def few_mays(box):
    """The box with hardly a may, so that more often there is no covering."""
    return (box[0], box[1][:1], box[2])


def moved(box, things):
    """The box's things numbered from this number on."""
    return tuple([(tuple([thing + things for thing in piece[0]]), piece[1]) for piece in box[2]])


def in_a_row(blocks):
    """One box of several, each one's things and pieces behind the last one's."""
    things, mays, pieces = 0, (), ()
    for block in blocks:
        mays += tuple([may + things for may in block[1]])
        pieces += moved(block, things)
        things += block[0]
    return (things, mays, pieces)


# Of 4 things and 8 pieces each; four of them in a row have many millions of coverings.
BLOCKS = (
    (4, (0, 1, 2, 3), (((0,), 1), ((1,), 2), ((2,), -1), ((3,), 1), ((0, 1), 3), ((2, 3), 1), ((0,), 1), ((3,), -2))),
    (4, (0, 1, 2, 3), (((3,), 5), ((2,), 2), ((1,), 0), ((0,), 1), ((1, 2), 3), ((0, 3), 1), ((2,), 2), ((1,), -2))),
    (4, (0, 1, 3), (((2,), 5), ((2,), 2), ((1,), 0), ((0,), 1), ((2, 3), 3), ((3,), 1), ((2,), 2), ((0,), -2))),
    (4, (1, 2, 3), (((0,), 5), ((0, 1), 2), ((1,), 0), ((2,), 1), ((3,), 3), ((0, 3), 1), ((2,), 2), ((3,), -2))),
)
BIG_BLOCKS = in_a_row(BLOCKS)
# For each may two pieces: 3 ** 16 coverings.
BIG_SINGLES = (16, tuple(range(16)), tuple([((number % 16,), number - 16) for number in range(32)]))
# Each piece reaches from the lower things into the upper ones, so that very many lots are met.
BIG_CROSSED = (16, tuple(range(16)), tuple([
    ((low, 8 + (3 * low + 2 * turn) % 8), low - turn) for low in range(8) for turn in range(4)
]))
# A ring of pairs through all things, and each thing by itself, so that no part stands alone.
BIG_RING = (16, tuple(range(16)), tuple([
    (tuple(sorted([thing, (thing + 5) % 16])), thing % 7 - 9) for thing in range(16)
]) + tuple([((15 - number,), -number) for number in range(16)]))


def big_boxes():
    return [BIG_BLOCKS, BIG_SINGLES, BIG_CROSSED, BIG_RING]


def no_lots(many):
    """What is no rising tuple of numbers from 0 to many less 1, one off for each reason."""
    wrong = [(-1,), (-many - 1,), (many,), (many + 1,), (LONGEST,), (-LONGEST,), [], [0], {}, {0: 0}, 0, 1, "0", None,
             True, False, (True,), (False,), (None,), ("0",), ((0,),), ([0],), ((),), ("",), (-1, 0), (0, 0), (1, 1)]
    numbers = tuple(range(many))
    if many > 0:
        wrong += [list(numbers), numbers + (many,), (-1,) + numbers, numbers + (many - 1,), (0,) + numbers,
                  numbers + (None,), (numbers,), (0, LONGEST)]
    if many > 1:
        wrong += [(1, 0), numbers[::-1], (False, 1), (0, True), (False, True), (0, None), (0, "1"), (0, (1,)), (0, [1]),
                  (0, 1, 1), (0, 1, 0), [0, 1], {0: 1, 1: 1}]
    return wrong


def all_lots(many):
    """Shorter ones first, those of one length in order."""
    return [lot for length in range(many + 1) for lot in itertools.combinations(range(many), length)]


def least_of(lots):
    """Those in which no other one is, in the order that they have."""
    return [lot for lot in lots if not any(other != lot and set(other) <= set(lot) for other in lots)]


def drawn_order(chance, count):
    return tuple(chance.sample(range(count), count))


def share_no_thing(box, some):
    held = [thing for number in some for thing in box[2][number][0]]
    return len(held) == len(set(held))


def assert_refused(case, kind, call, *handed):
    """The call is refused with this class, which is an OnceError, a ValueError and no other refusal."""
    with case.assertRaises(OnceError) as caught:
        call(*handed)
    case.assertEqual([refusal for refusal in REFUSALS if isinstance(caught.exception, refusal)], [kind])
    case.assertIsInstance(caught.exception, ValueError)
    return caught.exception


def soon(case, call, *handed):
    start = time.perf_counter()
    told = call(*handed)
    case.assertLess(time.perf_counter() - start, SOON)
    return told
