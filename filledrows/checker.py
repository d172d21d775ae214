"""The checker: it tells whether a certificate shows what a claim says."""

from filledrows.kinds import is_kind, kind_sets
from filledrows.lines import FILLS, fits, is_integer, is_line, is_plan, signs
from filledrows.programs import layers_of, program_of
from filledrows.proving import proves_ever, proves_never, read_relation
from filledrows.running import alone, held, taken_lists


def _accepts_never(told, certificate):
    claimed = _claimed(told)
    if claimed is None:
        return False
    program, kind, plan = claimed
    relations = _relations(certificate, len(program))
    return relations is not None and proves_never(relations, layers_of(program), kind, plan)


def _accepts_ever(told, certificate):
    claimed = _claimed(told)
    if claimed is None:
        return False
    program, kind, plan = claimed
    relations = _relations(certificate, len(program) + 1)
    return relations is not None and proves_ever(relations, layers_of(program), kind, plan)


def _accepts_can(told, certificate):
    return _has_chain(told, certificate, False)


def _accepts_sometime(told, certificate):
    return _has_chain(told, certificate, True)


def _accepts_unlike(told, certificate):
    if len(told) != 3 or not _are_places(certificate, told[2]):
        return False
    one = _program_of_text(told[0])
    other = _program_of_text(told[1])
    if one is None or other is None:
        return False
    line, x, y = certificate
    return (y in held(one, line)[x]) != (y in held(other, line)[x])


def _accepts_more(told, certificate):
    if len(told) != 2 or not _are_places(certificate, told[1]):
        return False
    program = _program_of_text(told[0])
    if program is None:
        return False
    line, x, y = certificate
    return y in held(program, line)[x] and y not in alone(program, line)[x]


def _claimed(told):
    # The program, the kind and the plan of a claim; None if they are no such ones.
    if len(told) != 3 or not is_kind(told[1]) or not is_plan(told[2]):
        return None
    program = _program_of_text(told[0])
    return None if program is None else (program, told[1], told[2])


def _program_of_text(value):
    # The program with this text; None if the value is the text of none.
    return program_of(tuple(value.split("\n"))) if isinstance(value, str) else None


def _relations(certificate, many):
    # What so many machines tell; None if the certificate does not consist of these.
    if not isinstance(certificate, tuple) or len(certificate) != many:
        return None
    relations = [read_relation(machine) for machine in certificate]
    return None if any([relation is None for relation in relations]) else relations


def _has_chain(told, certificate, again):
    # Whether it is a line with a chain, for one round or, if `again`, for one or more.
    claimed = _claimed(told)
    if claimed is None or not isinstance(certificate, tuple) or len(certificate) != 2:
        return False
    program, kind, plan = claimed
    line, chain = certificate
    if not _is_line_of(line, plan) or not _are_rounds(chain, len(program), again):
        return False
    if not all([_is_place(place, line) for place in chain]):
        return False
    kinds = kind_sets(kind, line)[chain[-1]]
    return kinds >> chain[0] & 1 == 1 and _is_taken_on(chain, program, line)


def _are_rounds(chain, many, again):
    # Whether the chain is one over rounds of so many layers, going by its length.
    if not isinstance(chain, tuple):
        return False
    steps = len(chain) - 1
    return steps == many or again and steps >= many and steps % many == 0


def _is_taken_on(chain, program, line):
    # Whether each place but the first one takes from the one before it in the chain.
    takings = [taken_lists(layer, line) for layer in layers_of(program)]
    for step in range(len(chain) - 1):
        taking = takings[step % len(takings)]
        if chain[step] not in taking[chain[step + 1]]:
            return False
    return True


def _are_places(certificate, plan):
    # Whether it is a line of the plan with a true place and a place.
    if not isinstance(certificate, tuple) or len(certificate) != 3:
        return False
    line, x, y = certificate
    if not is_plan(plan) or not _is_line_of(line, plan):
        return False
    return _is_place(x, line) and _is_place(y, line) and signs(line)[x] != FILLS


def _is_line_of(line, plan):
    return is_line(line) and fits(line, plan)


def _is_place(value, line):
    return is_integer(value) and 0 <= value < sum([abs(piece) for piece in line])


CHECKS = {
    "never": _accepts_never,
    "can": _accepts_can,
    "ever": _accepts_ever,
    "sometime": _accepts_sometime,
    "unlike": _accepts_unlike,
    "more": _accepts_more,
}


def accepts(claim, certificate):
    """Whether the claim, whatever it is, is one for the checker, and the certificate one for it."""
    if not isinstance(claim, tuple) or len(claim) == 0 or not isinstance(claim[0], str):
        return False
    if claim[0] not in CHECKS:
        return False
    check = CHECKS[claim[0]]
    return check(claim[1:], certificate)
