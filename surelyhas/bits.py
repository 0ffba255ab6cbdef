"""Sets of numbers, and of some of a row of pieces, told by bits: 1 for the first, 2 for the second, 4 for the third."""


def bits_of(numbers):
    """Return the bits of some different numbers."""
    return sum([1 << number for number in numbers])


def numbers_of(bits):
    """Return the ascending tuple of the numbers that some bits tell."""
    return tuple([number for number in range(bits.bit_length()) if bits & (1 << number) > 0])


def piece_bits(found, pieces):
    """Return the bits of some of a row of pieces."""
    return bits_of([pieces.index(piece) for piece in found])


def pieces_of(bits, pieces):
    """Return the list of those of a row of pieces that some bits tell."""
    return [pieces[number] for number in numbers_of(bits)]


def are_within(bits, others):
    """Return whether some bits are all among others."""
    return bits & ~others == 0


def united(many):
    """Return all bits of several."""
    told = 0
    for bits in many:
        told |= bits
    return told
