"""Wholes: whole numbers of pieces that would do, or hues against them.

A column has an entry for each must and, below these, one for each piece: how often the piece is in it. At first there
is a column for each piece. Must by must the columns are taken off one another until one alone, the lead, has an entry
there. The target has 1 for each must; the leads are taken off it until nothing is left, or until one does not go in.
"""

from eachonce.boxes import musts_of
from eachonce.kinds import common_divisor, is_whole


def are_wholes(box, thing):
    if not isinstance(thing, tuple) or len(thing) != len(box[2]) or not all([is_whole(number) for number in thing]):
        return False
    for must in musts_of(box):
        if sum([number for number, piece in zip(thing, box[2]) if must in piece[0]]) != 1:
            return False
    return True


def is_hue(thing, modulus):
    return is_whole(thing) and 0 <= thing < modulus


def are_hues(box, thing):
    if not isinstance(thing, tuple) or len(thing) != 2:
        return False
    modulus = thing[0]
    numbers = thing[1]
    if not is_whole(modulus) or modulus < 2 or not isinstance(numbers, tuple) or len(numbers) != box[0]:
        return False
    if not all([is_hue(number, modulus) for number in numbers]) or any([numbers[may] != 0 for may in box[1]]):
        return False
    if any([sum([numbers[one] for one in piece[0]]) % modulus != 0 for piece in box[2]]):
        return False
    return sum(numbers) % modulus != 0


def first_columns(box, musts):
    columns = []
    for number, piece in enumerate(box[2]):
        held = [1 if must in piece[0] else 0 for must in musts]
        columns.append(held + [1 if other == number else 0 for other in range(len(box[2]))])
    return columns


def taken_off(column, times, other):
    return [entry - times * less for entry, less in zip(column, other)]


def nearest_times(entry, divisor):
    # The rest is then at most half the divisor, so the entries stay small.
    return (2 * entry + divisor) // (2 * divisor)


def goes_in(lead, entry):
    return entry % lead == 0 if lead != 0 else entry == 0


def led_by_one(columns, row):
    # Those with an entry in this row, made one or none, and the others.
    filled = [column for column in columns if column[row] != 0]
    done = [column for column in columns if column[row] == 0]
    while len(filled) > 1:
        filled = sorted(filled, key=lambda column: abs(column[row]))
        lead = filled[0]
        less = [taken_off(column, nearest_times(column[row], lead[row]), lead) for column in filled[1:]]
        filled = [lead] + [column for column in less if column[row] != 0]
        done.extend([column for column in less if column[row] == 0])
    return (filled, done)


def numbers_of_row(musts, row, leads):
    # Such that each earlier lead comes to 0: made whole again and again by the entry that has to divide.
    numbers = [1 if place == row else 0 for place in range(len(musts))]
    for place, column in reversed(leads):
        rest = sum([number * entry for number, entry in zip(numbers, column)])
        divisor = common_divisor(abs(rest), abs(column[place]))
        numbers = [number * (column[place] // divisor) for number in numbers]
        numbers[place] = -rest // divisor
    return numbers


def least_not_dividing(number):
    modulus = 2
    while number % modulus == 0:
        modulus += 1
    return modulus


def hues_of_row(box, musts, row, lead, leads):
    # Every piece comes to a multiple of what the lead of this row comes to, or to 0 where there is no lead (0); the
    # target, in which this lead does not go, does not.
    numbers = numbers_of_row(musts, row, leads)
    modulus = abs(numbers[row] * lead) if lead != 0 else least_not_dividing(sum(numbers))
    hues = [0] * box[0]
    for must, number in zip(musts, numbers):
        hues[must] = number % modulus
    return (modulus, tuple(hues))


def wholes(box):
    musts = musts_of(box)
    columns = first_columns(box, musts)
    target = [1] * len(musts) + [0] * len(box[2])
    leads = []
    for row in range(len(musts)):
        parted = led_by_one(columns, row)
        columns = parted[1]
        lead = sum([column[row] for column in parted[0]])
        if not goes_in(lead, target[row]):
            return ("hues", hues_of_row(box, musts, row, lead, leads))
        for column in parted[0]:
            target = taken_off(target, target[row] // lead, column)
            leads.append((row, column))
    # Below the musts the target tells how often each piece was taken off, with the other sign.
    return ("wholes", tuple([-number for number in target[len(musts):]]))
