"""The room: bolts of cloth that are washed, and pieces that are cut from them."""

from twicewashed.errors import BadBolt, BadLength, BadShares, NoBolt, NoPiece, NoSide, NoWash, Stopped, WashError
from twicewashed.lengths import MOST_SHARES, Length

MOST_BOLTS = 4
MOST_WASHINGS = 4
LONGEST_CUT = 999
SIDES = ("along", "across")


class Room:
    """Bolts with the washings that are still to come, and the pieces in the order of their numbers."""

    def __init__(self, shares, bolts):
        if not 1 <= shares <= MOST_SHARES:
            raise BadShares("the number of shares is out of range")
        if not 1 <= len(bolts) <= MOST_BOLTS:
            raise BadBolt("the number of bolts is out of range")
        self._shares = shares
        self._to_come = [_checked_washings(bolt, shares) for bolt in bolts]
        self._cloth = []

    @property
    def pieces(self):
        """The number of pieces."""
        return len(self._cloth)

    def cut(self, bolt, along, across):
        """Cuts a piece with these present lengths and returns its number."""
        self._check_bolt(bolt)
        for count in (along, across):
            if not 1 <= count <= LONGEST_CUT:
                raise BadLength("a length to be cut is out of range")
        return self._place(bolt, (Length.plain(along, self._shares), Length.plain(across, self._shares)))

    def trace(self, bolt, piece, *, turned=False):
        """Cuts a piece as large as an earlier one is now and returns its number."""
        self._check_bolt(bolt)
        self._check_piece(piece)
        _, (along, across) = self._cloth[piece]
        return self._place(bolt, (across, along) if turned else (along, across))

    def wash(self, bolt):
        """Does the next washing of the bolt."""
        self._check_bolt(bolt)
        if not self._to_come[bolt]:
            raise NoWash("no washing of this bolt is still to come")
        washing = self._to_come[bolt][0]
        # A piece may refuse the washing: nothing is assigned before all pieces have been washed.
        cloth = [_washed_piece(piece, bolt, washing) for piece in self._cloth]
        self._cloth = cloth
        self._to_come[bolt] = self._to_come[bolt][1:]

    def edge(self, piece, side):
        """The present length of this side of the piece."""
        self._check_piece(piece)
        _, lengths = self._cloth[piece]
        return lengths[_place_of_side(side)]

    def finished(self, piece, side):
        """The length of this side after all washings of its bolt that are still to come."""
        self._check_piece(piece)
        at = _place_of_side(side)
        bolt, lengths = self._cloth[piece]
        length = lengths[at]
        for washing in self._to_come[bolt]:
            length = _washed_length(length, washing[at])
        return length

    def coming(self, bolt):
        """The number of washings of the bolt that are still to come."""
        self._check_bolt(bolt)
        return len(self._to_come[bolt])

    def walk(self):
        """Yields (bolt, along, across) for each piece: its bolt and its present lengths."""
        for bolt, (along, across) in self._cloth:
            yield bolt, along, across

    def perform(self, *deeds):
        """Performs all deeds, or none if one is refused, and returns the list of what they return."""
        # The deeds are done in a copy of the room: whatever stops them, this room stays as it is.
        draft = self._copied()
        told = []
        for at, deed in enumerate(deeds):
            try:
                told.append(draft._do(deed))
            except WashError as error:
                raise Stopped(at) from error
        self._to_come = draft._to_come
        self._cloth = draft._cloth
        return told

    def _copied(self):
        """A room that is as this one is now."""
        copied = Room(self._shares, self._to_come)
        copied._cloth = list(self._cloth)
        return copied

    def _do(self, deed):
        """Does one deed and returns what its method returns."""
        word = deed[0]
        if word == "cut":
            _, bolt, along, across = deed
            return self.cut(bolt, along, across)
        if word == "trace":
            _, bolt, piece, turned = deed
            return self.trace(bolt, piece, turned=turned)
        _, bolt = deed
        return self.wash(bolt)

    def _place(self, bolt, lengths):
        """Adds a piece of this bolt and returns its number."""
        self._cloth.append((bolt, lengths))
        return len(self._cloth) - 1

    def _check_bolt(self, bolt):
        if not 0 <= bolt < len(self._to_come):
            raise NoBolt("there is no bolt of this number")

    def _check_piece(self, piece):
        if not 0 <= piece < len(self._cloth):
            raise NoPiece("there is no piece of this number")


def _checked_washings(washings, shares):
    """The washings of a bolt as a tuple, if a room for so many shares can have them."""
    if len(washings) > MOST_WASHINGS:
        raise BadBolt("a bolt has too many washings")
    for along, across in washings:
        for share in (along, across):
            if share is not None and not 0 <= share < shares:
                raise BadBolt("a washing names a share that does not exist")
    return tuple(washings)


def _place_of_side(side):
    """Where this side stands in the lengths of a piece and in a washing."""
    if side not in SIDES:
        raise NoSide("a piece has no side of this name")
    return SIDES.index(side)


def _washed_length(length, share):
    """The length after a washing by this share, or by none."""
    return length if share is None else length.washed(share)


def _washed_piece(piece, bolt, washing):
    """The piece after a washing of this bolt, which may be another one than the piece's own."""
    own_bolt, (along, across) = piece
    if own_bolt != bolt:
        return piece
    return own_bolt, (_washed_length(along, washing[0]), _washed_length(across, washing[1]))
