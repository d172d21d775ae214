"""Programs: one to four layers, one behind another."""

from filledrows.errors import InvalidIndex, InvalidLayers, InvalidText, NotAProgram, WrongRow
from filledrows.layers import layers_width, read_layer
from filledrows.limits import MOST_LAYERS, MOST_WIDTH
from filledrows.lines import is_integer


class Program:
    """One to four layers, together not wider than 8."""

    def __init__(self, layers):
        if not isinstance(layers, tuple) or len(layers) == 0:
            raise InvalidLayers(None)
        wrong = _first_wrong(layers)
        if wrong is not None:
            raise InvalidLayers(wrong)
        self._layers = layers

    @classmethod
    def read(cls, text):
        """The program with this text."""
        if not isinstance(text, str):
            raise InvalidText(text)
        layers = text.split("\n")
        wrong = _first_wrong(layers)
        if wrong is not None:
            raise WrongRow(wrong)
        return cls(tuple(layers))

    @property
    def layers(self):
        """The layers, as they are written."""
        return self._layers

    def then(self, other):
        """The program with the layers of the other one behind its own."""
        check_program(other)
        return Program(self._layers + other.layers)

    def changed(self, index, layer):
        """The program with this layer in the place of another one."""
        check_index(self, index)
        layers = self._layers[:index] + (layer,) + self._layers[index + 1:]
        if _first_wrong(layers) is not None:
            raise InvalidLayers(index)
        return Program(layers)

    def without(self, index):
        """The program without this layer."""
        check_index(self, index)
        return Program(self._layers[:index] + self._layers[index + 1:])

    def __len__(self):
        return len(self._layers)

    def __str__(self):
        return "\n".join(self._layers)

    def __eq__(self, other):
        return isinstance(other, Program) and self._layers == other._layers


def check_program(value):
    """Raises NotAProgram for what is no Program."""
    if not isinstance(value, Program):
        raise NotAProgram(value)


def check_index(program, index):
    """Raises InvalidIndex for what is no index of a layer of the program."""
    if not is_index(program, index):
        raise InvalidIndex(index)


def is_index(program, value):
    """Whether the value, whatever it is, is the index of a layer of the program."""
    return is_integer(value) and 0 <= value < len(program)


def program_of(layers):
    """The program with this tuple of layers; None if they are too few, too many or too wide."""
    if len(layers) == 0 or _first_wrong(layers) is not None:
        return None
    return Program(layers)


def layers_of(program):
    """The list of the layers of the program, read from their words."""
    return [read_layer(layer) for layer in program.layers]


def width_of(program):
    """The width of the program."""
    return layers_width(layers_of(program))


def _first_wrong(written):
    # The index of the first one that is no layer, too many or with which they are too wide.
    width = 0
    for index, value in enumerate(written):
        layer = read_layer(value)
        if index == MOST_LAYERS or layer is None:
            return index
        width += layer.width
        if width > MOST_WIDTH:
            return index
    return None
