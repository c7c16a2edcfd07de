"""Papers: what shows that no covering is lighter, or that there is none.

What is done with is kept as a mask, a whole number with a bit for each thing.
"""

from eachonce.errors import TooMany
from eachonce.kinds import fraction_of, is_fraction, is_less, is_whole, mask_of, sum_of
from eachonce.lightest import lightest
from eachonce.shares import balanced

MOST_THINGS_ON_PAPER = 10


def fitting(box, done):
    return [piece for piece in box[2] if mask_of(piece[0]) & done == 0]


def things_left(box, done):
    return [thing for thing in range(box[0]) if done >> thing & 1 == 0]


def cases_of(box, done, thing):
    # Each by what it adds to the weight and to what is done with.
    taken = [(piece[1], mask_of(piece[0])) for piece in fitting(box, done) if thing in piece[0]]
    return [(0, 1 << thing)] + taken if thing in box[1] else taken


def are_prices(box, thing):
    if not isinstance(thing, tuple) or len(thing) != box[0] or not all([is_fraction(price) for price in thing]):
        return False
    return all([thing[may][0] <= 0 for may in box[1]])


def shown_by_price(box, prices, done, weight):
    if not are_prices(box, prices):
        return None
    for piece in fitting(box, done):
        if is_less((piece[1], 1), sum_of([prices[thing] for thing in piece[0]])):
            return None
    return ("least", sum_of([(weight, 1)] + [prices[thing] for thing in things_left(box, done)]))


def least_of(told):
    best = ("none",)
    for answer in told:
        if len(best) == 1 or (len(answer) == 2 and is_less(answer[1], best[1])):
            best = answer
    return best


def shown_by_part(box, paper, done, weight):
    thing = paper[1]
    papers = paper[2]
    if not is_whole(thing) or thing not in things_left(box, done):
        return None
    cases = cases_of(box, done, thing)
    if not isinstance(papers, tuple) or len(papers) != len(cases):
        return None
    told = []
    for inner, case in zip(papers, cases):
        answer = shown_in_case(box, inner, done | case[1], weight + case[0])
        if answer is None:
            return None
        told.append(answer)
    return least_of(told)


def shown_in_case(box, paper, done, weight):
    if not isinstance(paper, tuple):
        return None
    if len(paper) == 3 and paper[0] == "part":
        return shown_by_part(box, paper, done, weight)
    if len(paper) == 2 and paper[0] == "price":
        return shown_by_price(box, paper[1], done, weight)
    return None


def shown(box, paper):
    return shown_in_case(box, paper, 0, 0)


def fewest_parts(box, done, known):
    # Where all musts are done with, there is a covering; so in a box without one some must is left.
    if done not in known:
        best = None
        for must in [thing for thing in things_left(box, done) if thing not in box[1]]:
            cases = cases_of(box, done, must)
            # Each case takes a part at least.
            if best is None or len(cases) + 1 < best[0]:
                parts = 1 + sum([fewest_parts(box, done | more, known)[0] for weight, more in cases])
                if best is None or parts < best[0]:
                    best = (parts, must)
        known[done] = best
    return known[done]


def paper_of_none(box, done, known):
    thing = fewest_parts(box, done, known)[1]
    papers = [paper_of_none(box, done | more, known) for weight, more in cases_of(box, done, thing)]
    return ("part", thing, tuple(papers))


def dear_lack(box):
    # What lacks at all lacks more than a ten-millionth: the bottom of ten rows of noughts and ones, a determinant, is
    # at most 10 * 9 * .. * 2. So at this much a must lacks nothing if it can be helped, and if it can't, the prices
    # come above the weight of any covering.
    return 10 ** 7 * (1 + 2 * sum([abs(piece[1]) for piece in box[2]]))


def best_prices(box, done):
    pieces = fitting(box, done)
    # What is done with has no piece that fits, so as a may it has the price 0.
    mays = tuple([thing for thing in range(box[0]) if thing in box[1] or done >> thing & 1 == 1])
    told = balanced((box[0], mays, tuple(pieces)), dear_lack(box))
    # Without a piece taken in part there is a covering as light as the prices tell; so else it hangs on these things.
    in_part = [piece[0] for part, piece in zip(told[0], pieces) if part % told[2] != 0]
    doubts = [thing for thing in range(box[0]) if any([thing in things for things in in_part])]
    return (tuple([fraction_of(price, told[2]) for price in told[1]]), doubts)


def paper_of_least(box, done, least, known):
    if done not in known:
        known[done] = best_prices(box, done)
    prices = known[done][0]
    if not is_less(sum_of(prices), (least, 1)):
        return ("price", prices)
    thing = min(known[done][1], key=lambda doubt: len(cases_of(box, done, doubt)))
    cases = cases_of(box, done, thing)
    return ("part", thing, tuple([paper_of_least(box, done | more, least - weight, known) for weight, more in cases]))


def paper_of(box):
    if box[0] > MOST_THINGS_ON_PAPER:
        raise TooMany("there are more than ten things")
    told = lightest(box)
    if told is None:
        return paper_of_none(box, 0, {})
    return paper_of_least(box, 0, told[0], {})
