"""Kinds: what true places may hold, and which places of a line are of a kind for which."""

from filledrows.errors import InvalidKind

KINDS = ("filling", "other", "strange", "later", "earlier")


def check_kind(kind):
    """Raises InvalidKind for what is no kind."""
    if not is_kind(kind):
        raise InvalidKind(kind)


def is_kind(value):
    """Whether the value, whatever it is, is a kind."""
    # The string test comes first: a value of another class may equal anything.
    return isinstance(value, str) and value in KINDS


def kind_sets(kind, line):
    """For each place x the set of the places of the line that are of the kind for x."""
    pieces = _piece_sets(line)
    every = sum(pieces)
    fillings = sum([places for places, piece in zip(pieces, line) if piece < 0])
    found = []
    for places, piece in zip(pieces, line):
        if piece < 0:
            # Kinds tell what true places may hold.
            found.extend([0] * -piece)
        elif kind == "filling":
            found.extend([fillings] * piece)
        elif kind == "other":
            found.extend([every - fillings - places] * piece)
        elif kind == "strange":
            found.extend([every - places] * piece)
        else:
            found.extend(_row_sets(kind, places, len(found), piece))
    return found


def _row_sets(kind, places, first, many):
    # For each place of a row those before it, or those behind it.
    found = []
    for place in range(first, first + many):
        earlier = places & ((1 << place) - 1)
        found.append(earlier if kind == "earlier" else places - earlier - (1 << place))
    return found


def _piece_sets(line):
    # For each piece the set of its places.
    found = []
    first = 0
    for piece in line:
        found.append(((1 << abs(piece)) - 1) << first)
        first += abs(piece)
    return found
