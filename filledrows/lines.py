"""Lines and plans: how rows and fillings are laid one behind another."""

from filledrows.errors import InvalidLine, InvalidPlan, InvalidText
from filledrows.limits import MOST_PLACES

FIRST = "b"
FURTHER = "o"
FILLING = "f"
LETTERS = "bof"

# The sign of a place tells its letter, and whether it is the last one of its row.
OPENS = 0
GOES_ON = 1
FILLS = 2
SINGLE = 3
CLOSES = 4
SIGNS = 5
SIGN_LETTERS = "bofbo"

PLANS = ("behind", "front", "joined", "packed", "any")


def letters(line):
    """The string with a letter for each place of the line."""
    check_line(line)
    return "".join([_piece_letters(piece) for piece in line])


def read_line(text):
    """The line that has this string."""
    if not _is_text_of_line(text):
        raise InvalidText(text)
    pieces = []
    for letter in text:
        if letter == FIRST:
            pieces.append(1)
        elif letter == FURTHER:
            pieces[-1] += 1
        elif pieces and pieces[-1] < 0:
            pieces[-1] -= 1
        else:
            pieces.append(-1)
    return tuple(pieces)


def rows(line):
    """The pairs (first place, last place) of the rows of the line."""
    check_line(line)
    found = []
    place = 0
    for piece in line:
        if piece > 0:
            found.append((place, place + piece - 1))
        place += abs(piece)
    return tuple(found)


def signs(line):
    """The list of the signs of the places of the line."""
    found = []
    for piece in line:
        if piece < 0:
            found.extend([FILLS] * -piece)
        elif piece == 1:
            found.append(SINGLE)
        else:
            found.extend([OPENS] + [GOES_ON] * (piece - 2) + [CLOSES])
    return found


def sign_of(letter, goes_on):
    """The sign of a place with this letter, whose row goes on behind it or does not."""
    return SIGN_LETTERS.find(letter) if goes_on else SIGN_LETTERS.rfind(letter)


def fits(line, plan):
    """Whether the line is one of the plan."""
    check_line(line)
    check_plan(plan)
    # No two fillings stand side by side, so "only fillings" is one or none here.
    if plan == "behind":
        return line[0] > 0 and _only_fillings(line[1:])
    if plan == "front":
        return line[-1] > 0 and _only_fillings(line[:-1])
    if plan == "joined":
        return _only_rows(line)
    if plan == "packed":
        return line[0] > 0 and _only_rows(line[:-1])
    return True


def check_line(line):
    """Raises InvalidLine for what is no line of at most 60 places."""
    if not is_line(line):
        raise InvalidLine(line)


def check_plan(plan):
    """Raises InvalidPlan for what is no plan."""
    if not is_plan(plan):
        raise InvalidPlan(plan)


def is_line(value):
    """Whether the value, whatever it is, is a line of at most 60 places."""
    if not isinstance(value, tuple) or len(value) == 0:
        return False
    if not all([_is_piece(piece) for piece in value]):
        return False
    if sum([abs(piece) for piece in value]) > MOST_PLACES:
        return False
    return not any([value[k] < 0 and value[k + 1] < 0 for k in range(len(value) - 1)])


def is_integer(value):
    """Whether the value, whatever it is, is an integer."""
    # In Python True is an int; here it is none.
    return isinstance(value, int) and not isinstance(value, bool)


def is_plan(value):
    """Whether the value, whatever it is, is a plan."""
    # The string test comes first: a value of another class may equal anything.
    return isinstance(value, str) and value in PLANS


def _is_piece(value):
    return is_integer(value) and value != 0


def _piece_letters(piece):
    if piece > 0:
        return FIRST + FURTHER * (piece - 1)
    return FILLING * -piece


def _is_text_of_line(value):
    if not isinstance(value, str) or not 1 <= len(value) <= MOST_PLACES:
        return False
    if not all([letter in (FIRST, FURTHER, FILLING) for letter in value]):
        return False
    # A further place needs a place of its own row right before it.
    return value[0] != FURTHER and FILLING + FURTHER not in value


def _only_rows(pieces):
    return all([piece > 0 for piece in pieces])


def _only_fillings(pieces):
    return all([piece < 0 for piece in pieces])
