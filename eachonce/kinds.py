"""The kinds of values that all modules speak of; each is asked of anything."""


def is_whole(thing):
    # To Python a truth is an int, too; to the document it is no whole number.
    return isinstance(thing, int) and not isinstance(thing, bool)


def is_rising(thing):
    if not isinstance(thing, tuple):
        return False
    # What is no whole number may not be comparable, so all are looked at ahead of the order.
    if not all([is_whole(number) for number in thing]):
        return False
    return all([thing[k - 1] < thing[k] for k in range(1, len(thing))])


def is_lot(thing, many):
    if not is_rising(thing):
        return False
    # The least and the greatest bound all that stands between them.
    return len(thing) == 0 or (thing[0] >= 0 and thing[-1] < many)


def mask_of(lot):
    return sum([1 << thing for thing in lot])


def lot_of(mask):
    return tuple([thing for thing in range(mask.bit_length()) if mask >> thing & 1 == 1])


def common_divisor(one, other):
    while other != 0:
        rest = one % other
        one = other
        other = rest
    return one


def is_fraction(thing):
    if not isinstance(thing, tuple) or len(thing) != 2:
        return False
    if not is_whole(thing[0]) or not is_whole(thing[1]) or thing[1] < 1:
        return False
    return common_divisor(abs(thing[0]), thing[1]) == 1


def fraction_of(top, bottom):
    divisor = common_divisor(abs(top), bottom)
    return (top // divisor, bottom // divisor)


def sum_of(fractions):
    top = 0
    bottom = 1
    for fraction in fractions:
        top = top * fraction[1] + fraction[0] * bottom
        bottom *= fraction[1]
    return fraction_of(top, bottom)


def is_less(one, other):
    return one[0] * other[1] < other[0] * one[1]
