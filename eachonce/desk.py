"""The desk: a shop that is told rows and answers with texts."""

from eachonce.coverings import covering_at
from eachonce.errors import NoRow
from eachonce.shop import Shop
from eachonce.texts import number_in, numbers_in, numbers_written, written

ROWS_BY_THEMSELVES = ("must", "may", "undo", "box", "many", "lightest", "bars")
HEADS_OF_A_NUMBER = ("turn", "drop thing", "drop piece", "at")


def from_nought_on(number):
    return number is not None and number >= 0


def piece_parts(words):
    things = numbers_in(words[1])
    weight = number_in(words[2])
    if weight is None or not all([from_nought_on(thing) for thing in things]):
        return None
    return ("piece", things, weight)


def parts_of(row):
    # What a row says, its numbers read; None of what is no such row.
    if row in ROWS_BY_THEMSELVES:
        return (row,)
    words = row.split(" ")
    if len(words) == 3 and words[0] == "piece":
        return piece_parts(words)
    ends = row.rpartition(" ")
    number = number_in(ends[2])
    if ends[0] in HEADS_OF_A_NUMBER and from_nought_on(number):
        return (ends[0], number)
    return None


def covering_told(covering):
    return " ".join([str(number) for number in covering]) if len(covering) > 0 else "empty"


def lightest_told(best):
    return str(best[0]) + " : " + covering_told(best[1]) if best is not None else "none"


def bars_told(bars):
    return " ".join([numbers_written(bar) for bar in bars]) if len(bars) > 0 else "none"


def put_in(shop, parts):
    if parts[0] == "piece":
        return str(shop.put_piece(parts[1], parts[2]))
    return str(shop.put_thing(parts[0] == "must"))


def changed(shop, parts):
    if parts[0] == "turn":
        shop.turn_thing(parts[1])
    elif parts[0] == "drop thing":
        shop.take_thing(parts[1])
    elif parts[0] == "drop piece":
        shop.take_piece(parts[1])
    else:
        shop.undo()
    return "ok"


def asked(shop, parts):
    if parts[0] == "box":
        return written(shop.box())
    if parts[0] == "many":
        return str(shop.many())
    if parts[0] == "at":
        return covering_told(covering_at(shop.box(), parts[1]))
    if parts[0] == "lightest":
        return lightest_told(shop.lightest())
    return bars_told(shop.least_bars())


class Desk:
    def __init__(self):
        self.shop = Shop()

    def say(self, row):
        parts = parts_of(row) if isinstance(row, str) else None
        if parts is None:
            raise NoRow("this is no row of a desk")
        if parts[0] in ("must", "may", "piece"):
            return put_in(self.shop, parts)
        if parts[0] in ("turn", "drop thing", "drop piece", "undo"):
            return changed(self.shop, parts)
        return asked(self.shop, parts)
