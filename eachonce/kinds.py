"""The kinds of values that all modules speak of; each is asked of anything."""


def is_whole(thing):
    # To Python a truth is an int, too; to the document it is no whole number.
    return isinstance(thing, int) and not isinstance(thing, bool)


def is_rising(thing):
    if not isinstance(thing, tuple):
        return False
    # What is no whole number may not be comparable, so all are looked at ahead of the order.
    if not all([is_whole(number) for number in thing]):
        return False
    return all([thing[k - 1] < thing[k] for k in range(1, len(thing))])


def is_lot(thing, many):
    if not is_rising(thing):
        return False
    # The least and the greatest bound all that stands between them.
    return len(thing) == 0 or (thing[0] >= 0 and thing[-1] < many)


def mask_of(lot):
    return sum([1 << thing for thing in lot])
