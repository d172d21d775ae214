"""Machines of certificates read plainly, for the tests of the checker and of certificates."""

from tests.samples import is_of_plan, of_kind, places, plain_taken, size


def letter_numbers(line):
    """For each place of the line the number of its letter."""
    found = []
    for piece in line:
        found += [2] * -piece if piece < 0 else [0] + [1] * (piece - 1)
    return found


def reads(machine, line, x, y):
    """Whether the machine accepts the line with the marks at x and y."""
    state = 0
    for place, letter in enumerate(letter_numbers(line)):
        state = machine[state][4 * letter + (place == x) + 2 * (place == y)]
        if state is None:
            return False
    return machine[state][12]


def relation(machine, line):
    """The set of the pairs of places with which the machine accepts the line."""
    many = range(size(line))
    return {(x, y) for x in many for y in many if reads(machine, line, x, y)}


def leads_on(layers, relations, line):
    """Whether each relation has all that is taken in its layer of what the one before it has."""
    for layer, before, behind in zip(layers, relations, relations[1:]):
        for x, taken in enumerate(plain_taken(layer, line)):
            if any((x, y) not in behind for z, y in before if z in taken):
                return False
    return True


def has_none(kind, pairs, line):
    """Whether in none of these pairs x is a true place and y is of the kind for it."""
    return not any(of_kind(kind, line, x, y) for x, y in pairs)


def is_right_never(layers, kind, line, machines):
    """Whether machines are right for "never", as far as this line goes."""
    same = {(x, x) for x in range(size(line))}
    relations = [same] + [relation(machine, line) for machine in machines]
    return leads_on(layers, relations, line) and has_none(kind, relations[-1], line)


def is_right_ever(layers, kind, line, machines):
    """Whether machines are right for "ever", as far as this line goes."""
    same = {(x, x) for x in range(size(line))}
    relations = [relation(machine, line) for machine in machines]
    return (same | relations[-1] <= relations[0] and leads_on(layers, relations, line)
            and has_none(kind, relations[0], line))


def are_right(word, layers, kind, plan, machines, some_lines):
    """Whether the machines are right as far as these lines go that are of the plan."""
    right = is_right_never if word == "never" else is_right_ever
    return all(right(layers, kind, line, machines) for line in some_lines if is_of_plan(line, plan))


def is_chain(layers, kind, line, chain):
    """Whether a chain of places shows what it should on this line."""
    if any(place not in range(size(line)) for place in chain) or len(chain) < 2:
        return False
    for step, (before, behind) in enumerate(zip(chain, chain[1:])):
        if before not in plain_taken(layers[step % len(layers)], line)[behind]:
            return False
    return places(line)[chain[-1]][1] and of_kind(kind, line, chain[-1], chain[0])
