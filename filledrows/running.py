"""Running programs on lines: what places take, and what they hold."""

from filledrows.bits import members
from filledrows.errors import InvalidNumber
from filledrows.layers import ROW, read_layer
from filledrows.limits import MOST_ROUNDS
from filledrows.lines import check_line, is_integer, rows, signs
from filledrows.programs import check_index, check_program, layers_of


def taken(program, index, line):
    """For each place those from which it takes in this layer."""
    check_program(program)
    check_index(program, index)
    check_line(line)
    return tuple([tuple(places) for places in taken_lists(read_layer(program.layers[index]), line)])


def held(program, line, *, rounds=1):
    """For each place those that it holds behind so many rounds."""
    check_program(program)
    check_line(line)
    check_rounds(rounds)
    return _held(program, line, rounds)


def alone(program, line, *, rounds=1):
    """For each true place those that it would hold if its row were the whole line."""
    check_program(program)
    check_line(line)
    check_rounds(rounds)
    found = [()] * len(signs(line))
    for first, last in rows(line):
        for place, places in enumerate(_held(program, (last - first + 1,), rounds)):
            found[first + place] = tuple([first + other for other in places])
    return tuple(found)


def held_sets(layers, line, rounds=1):
    """For each place the set of those that it holds behind so many rounds of these layers."""
    takings = [taken_lists(layer, line) for layer in layers]
    holds = [1 << place for place in range(len(signs(line)))]
    for _ in range(rounds):
        for taking in takings:
            holds = [_together(holds, places) for places in taking]
    return holds


def check_rounds(rounds):
    """Raises InvalidNumber for what is no integer from 1 to 6."""
    if not is_rounds(rounds):
        raise InvalidNumber(rounds)


def is_rounds(value):
    """Whether the value, whatever it is, is an integer from 1 to 6."""
    return is_integer(value) and 1 <= value <= MOST_ROUNDS


def taken_lists(layer, line):
    """For each place the ascending list of those from which it takes in this layer."""
    place_signs = signs(line)
    pieces = _piece_of_each(line)
    found = []
    for place, sign in enumerate(place_signs):
        places = []
        for other, other_sign in enumerate(place_signs):
            if other == place:
                takes = layer.keeps(sign)
            elif layer.scope == ROW and pieces[other] != pieces[place]:
                takes = False
            else:
                takes = layer.asks(sign) and layer.sees(other_sign)
                takes = takes and layer.span.leads(other - place)
            if takes:
                places.append(other)
        found.append(places)
    return found


def _piece_of_each(line):
    # For each place the index of its piece.
    found = []
    for index, piece in enumerate(line):
        found.extend([index] * abs(piece))
    return found


def _held(program, line, rounds):
    holds = held_sets(layers_of(program), line, rounds)
    return tuple([tuple(members(places)) for places in holds])


def _together(holds, places):
    found = 0
    for place in places:
        found = found | holds[place]
    return found
