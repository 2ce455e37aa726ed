"""The pieces of a part over turns, one for each turn."""

from faultwhy.forcing import forced


def pieces_of(part, turns):
    return [piece_at(part[1], part[2], part[3], turn) for turn in range(turns)]


def piece_at(sort, pins, number, turn):
    if sort != "hold":
        return (sort, number, [(wire, turn) for wire in pins])
    if turn == 0:
        return ("const", number, [(pins[1], 0)])
    return ("copy", None, [(pins[0], turn - 1), (pins[1], turn)])


# A piece with the part and the turn that it is of, and with the way that it keeps to.
class Piece:
    def __init__(self, part, at, way, piece):
        self.part = part
        self.at = at
        self.way = way
        self.piece = piece
        self.places = piece[2]

    def forced_from(self, known):
        # Pairs of place and value, from a dict of the values known at places.
        pins = [known.get(place) for place in self.places]
        pairs = forced(self.piece[0], self.piece[1], self.way, pins)
        return [(self.places[pin], value) for pin, value in pairs]


def mode_pieces(part, turns, way):
    return [Piece(part[0], at, way, piece) for at, piece in enumerate(pieces_of(part, turns))]
