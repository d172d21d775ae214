"""What a layer might look at, so that nothing of a kind is held."""

from filledrows.asking import can_hold
from filledrows.bits import members
from filledrows.errors import InvalidLayers
from filledrows.kinds import check_kind, kind_sets
from filledrows.layers import read_layer
from filledrows.lines import check_line, check_plan
from filledrows.programs import check_index, check_program, layers_of, program_of
from filledrows.running import held_sets


def safe_looks(program, index, kind, line):
    """For each place u those places v with which (u, v) is safe."""
    check_program(program)
    check_index(program, index)
    check_kind(kind)
    check_line(line)
    layers = layers_of(program)
    before = held_sets(layers[:index], line)
    barred = _barred(held_sets(layers[index + 1:], line), kind_sets(kind, line))
    return tuple([tuple([place for place, places in enumerate(before) if places & bars == 0])
                  for bars in barred])


def safe_layers(program, index, kind, plan, layers):
    """The indexes of those layers that can stand there, so that nothing of the kind is held."""
    check_program(program)
    check_index(program, index)
    check_kind(kind)
    check_plan(plan)
    _check_layers(layers)
    found = []
    for number, layer in enumerate(layers):
        changed = program_of(program.layers[:index] + (layer,) + program.layers[index + 1:])
        if changed is not None and not can_hold(changed, kind, plan):
            found.append(number)
    return tuple(found)


def _barred(behind, kinds):
    # For each place u all that is of the kind for a place that holds u in the end.
    found = [0] * len(behind)
    for holder, places in enumerate(behind):
        for place in members(places):
            found[place] = found[place] | kinds[holder]
    return found


def _check_layers(layers):
    if not isinstance(layers, tuple):
        raise InvalidLayers(None)
    for number, layer in enumerate(layers):
        if read_layer(layer) is None:
            raise InvalidLayers(number)
