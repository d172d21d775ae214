"""Layers: how they are written, and what they say of places."""

from filledrows.limits import MOST_EVERY, MOST_NEAR
from filledrows.lines import CLOSES, FILLS, OPENS, SINGLE

ROW = "row"
TRUE = "true"
LINE = "line"

BACK = "back"
AHEAD = "ahead"
AROUND = "around"


class Span:
    """How far a layer looks.

    `distances` are those at which it looks, or None for all that `every` divides. With `first`
    and `last`, `ends` are the signs of the one place of the row at which it looks.
    """

    def __init__(self, back, ahead, distances, *, every=1, ends=()):
        self.back = back
        self.ahead = ahead
        self.distances = distances
        self.every = every
        self.ends = ends

    def reaches(self, distance):
        """Whether it looks at places at this distance, in the ways that it looks."""
        if self.distances is None:
            return distance % self.every == 0
        return distance in self.distances

    def leads(self, step):
        """Whether it looks at the place that is so many places ahead, or back if below 0."""
        looks = self.back if step < 0 else self.ahead
        return looks and self.reaches(abs(step))


class Layer:
    """What a layer says of places, told by their signs."""

    def __init__(self, width, scope, span, *, own=False, for_true=False, clears=False):
        self.width = width
        self.scope = scope
        self.span = span
        self.own = own
        self.for_true = for_true
        self.clears = clears

    def in_row(self):
        """The layer by which true places take as they do where their row is the whole line."""
        return Layer(self.width, ROW, self.span, own=self.own, clears=self.clears)

    def keeps(self, sign):
        """Whether a place with this sign takes from itself."""
        if self.clears:
            return sign != FILLS
        if self.own or self.for_true and sign == FILLS:
            return True
        return sign in self.span.ends

    def asks(self, sign):
        """Whether a place with this sign takes from others, if it looks at any."""
        return sign != FILLS or not self.for_true

    def sees(self, sign):
        """Whether it can look at a place with this sign."""
        if self.span.ends:
            return sign in self.span.ends
        return sign != FILLS or self.scope == LINE


def read_layer(value):
    """The layer that is written so; None if the value, whatever it is, is no layer."""
    if not isinstance(value, str):
        return None
    if value == "clear":
        return Layer(0, ROW, Span(False, False, ()), clears=True)
    words, for_true = _cut(value.split(" "), ["for", "true"])
    words, own = _cut(words, ["own"])
    words, every = _cut_every(words)
    if words[:1] not in (["look"], ["add"]) or words[1:2] not in ([ROW], [TRUE], [LINE]):
        return None
    adds = words[0] == "add"
    span = _read_span(words[2:], every, words[1])
    if span is None or adds and own:
        return None
    return Layer(_width(words[2:], every), words[1], span, own=own or adds, for_true=for_true)


def layers_width(layers):
    """The width of these layers together."""
    return sum([layer.width for layer in layers])


def _cut(words, last):
    # The words without these last ones, and whether they stood there.
    if words[-len(last):] == last:
        return words[:-len(last)], True
    return words, False


def _cut_every(words):
    # The words without `every M` at the end, and M, or None if it does not stand there.
    if words[-2:-1] == ["every"] and words[-1] in _numbers(2, MOST_EVERY):
        return words[:-2], int(words[-1])
    return words, None


def _numbers(least, most):
    return [str(number) for number in range(least, most + 1)]


def _read_span(words, every, scope):
    # What a RANGE, with `every M` or without, tells; None if it is none with this scope.
    nears = _numbers(1, MOST_NEAR)
    if len(words) == 2 and words[0] in (BACK, AHEAD, AROUND) and words[1] in [*nears, "all"]:
        return _wide_span(words[0], words[1], every or 1)
    if every is not None:
        return None
    if len(words) == 3 and words[0] == "at" and words[1] in nears and words[2] in (BACK, AHEAD):
        return Span(words[2] == BACK, words[2] == AHEAD, (int(words[1]),))
    if scope == ROW and words == ["first"]:
        return Span(True, False, None, ends=(OPENS, SINGLE))
    if scope == ROW and words == ["last"]:
        return Span(False, True, None, ends=(CLOSES, SINGLE))
    return None


def _wide_span(way, near, every):
    distances = None
    if near != "all":
        distances = tuple([far for far in range(1, int(near) + 1) if far % every == 0])
    return Span(way != AHEAD, way != BACK, distances, every=every)


def _width(words, every):
    if len(words) == 1:
        return 1
    if words[1] == "all":
        return every or 1
    return int(words[1])
