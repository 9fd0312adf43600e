"""Integers as sets of small numbers: the bit 1 << n stands for the number n."""


def bits_in(mask):
    """List the bits of a mask, ascending."""
    found = []
    while mask > 0:
        low = mask & -mask
        found.append(low)
        mask ^= low
    return found


def indexes_in(mask):
    """List the numbers for which the bits of a mask stand, ascending."""
    return [bit.bit_length() - 1 for bit in bits_in(mask)]
