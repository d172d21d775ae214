"""Sets of integers from 0 on, kept as numbers that have a bit for each member."""


def members(bits):
    """The ascending list of the members of the set."""
    return [member for member in range(bits.bit_length()) if bits >> member & 1]
