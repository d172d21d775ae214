"""Wishes: what is asked of the programs that stand under names."""

from filledrows.alike import alike, lonely
from filledrows.asking import can_hold
from filledrows.errors import TooMany
from filledrows.kinds import is_kind
from filledrows.lines import is_integer, is_plan
from filledrows.reach import reach
from filledrows.running import is_rounds

SMALL_LETTERS = "abcdefghijklmnopqrstuvwxyz"
DIGITS = "0123456789"
MOST_SIGNS = 8

NEVER = "never"
ALONE = "alone"
ALIKE = "alike"
REACH = "reach"


def is_name(value):
    """Whether the value, whatever it is, is a name."""
    if not isinstance(value, str) or not 1 <= len(value) <= MOST_SIGNS:
        return False
    return value[0] in SMALL_LETTERS and all([sign in SMALL_LETTERS + DIGITS for sign in value])


def is_wish(value):
    """Whether the value, whatever it is, is a wish."""
    if not isinstance(value, tuple) or len(value) < 3 or not isinstance(value[0], str):
        return False
    word, name, *told = value
    if not is_name(name):
        return False
    if word == NEVER:
        return len(told) == 3 and is_kind(told[0]) and is_plan(told[1]) and _is_number(told[2])
    if word == ALONE:
        return len(told) == 1 and is_plan(told[0])
    if word == ALIKE:
        return len(told) == 2 and is_name(told[0]) and is_plan(told[1])
    if word == REACH:
        return len(told) == 3 and is_plan(told[0]) and _is_most(told[1]) and _is_most(told[2])
    return False


def names_of(wish):
    """The names of the wish, in their order."""
    return wish[1:3] if wish[0] == ALIKE else wish[1:2]


def is_kept(wish, programs):
    """Whether the wish holds, its names being those of these programs."""
    program = programs[wish[1]]
    if wish[0] == NEVER:
        return _holds_never(program, wish[2], wish[3], wish[4])
    if wish[0] == ALONE:
        return lonely(program, wish[2])
    if wish[0] == ALIKE:
        return alike(program, programs[wish[2]], wish[3])
    back, ahead = reach(program, wish[2])
    return _is_at_most(back, wish[3]) and _is_at_most(ahead, wish[4])


def _is_number(value):
    return value is None or is_rounds(value)


def _is_most(value):
    return value is None or is_integer(value) and value >= 0


def _holds_never(program, kind, plan, rounds):
    try:
        return not can_hold(program, kind, plan, rounds=rounds)
    except TooMany:
        # Where no answer is given, nobody could say that the wish holds.
        return False


def _is_at_most(distance, most):
    return most is None or distance is not None and distance <= most
