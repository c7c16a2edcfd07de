"""Boxes as texts, there and back."""

from eachonce.boxes import MOST_PIECES, is_box, is_piece
from eachonce.errors import NoText

FIGURES = "0123456789"
# A weight's bound, 10 ** 12, has as many, and nothing in a box has more.
MOST_FIGURES = 13


def numbers_written(numbers):
    return ",".join([str(number) for number in numbers])


def written(box):
    head = "things " + str(box[0])
    if len(box[1]) > 0:
        head += " may " + numbers_written(box[1])
    return "\n".join([head] + [numbers_written(piece[0]) + " " + str(piece[1]) for piece in box[2]])


def number_in(word):
    figures = word[1:] if word.startswith("-") else word
    # int takes other signs for figures, too, and fails of very many of them.
    if len(figures) == 0 or len(figures) > MOST_FIGURES or not all([figure in FIGURES for figure in figures]):
        return None
    if figures[0] == "0" and word != "0":
        return None
    return int(word)


def numbers_in(word):
    return tuple([number_in(part) for part in word.split(",")])


def head_in(row):
    words = row.split(" ")
    if len(words) == 2 and words[0] == "things":
        return (number_in(words[1]), (), ())
    if len(words) == 4 and words[0] == "things" and words[2] == "may":
        return (number_in(words[1]), numbers_in(words[3]), ())
    return None


def piece_in(row):
    words = row.split(" ")
    if len(words) != 2:
        return None
    return (numbers_in(words[0]), number_in(words[1]))


def read(text):
    if not isinstance(text, str):
        raise NoText(0)
    rows = text.split("\n")
    head = head_in(rows[0])
    # None in the place of a number makes it no box, and no piece.
    if not is_box(head):
        raise NoText(0)
    pieces = []
    for row in range(1, len(rows)):
        piece = piece_in(rows[row])
        if len(pieces) == MOST_PIECES or not is_piece(piece, head[0]):
            raise NoText(row)
        pieces.append(piece)
    return (head[0], head[1], tuple(pieces))
