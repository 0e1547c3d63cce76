"""What the tests of rooms share."""

from twicewashed.errors import NoBolt, TooOften

SIDES = ("along", "across")


def told(length):
    return length.count, length.powers


def pair(room, piece):
    """The two present lengths of a piece."""
    return [told(room.edge(piece, side)) for side in SIDES]


def end(room, piece, side):
    """The finished length, or the word for the error."""
    try:
        return told(room.finished(piece, side))
    except TooOften:
        return "too often"


def washings_to_come(room):
    """One number for each bolt; the bolts are counted by asking for them."""
    numbers = []
    while True:
        try:
            numbers.append(room.coming(len(numbers)))
        except NoBolt:
            return numbers


def everything(room):
    """All that can be asked of a room."""
    pieces = range(room.pieces)
    return {
        "pieces": room.pieces,
        "present": [pair(room, piece) for piece in pieces],
        "finished": [[end(room, piece, side) for side in SIDES] for piece in pieces],
        "coming": washings_to_come(room),
        "walk": [(bolt, told(along), told(across)) for bolt, along, across in room.walk()],
    }
