"""Which uses of registers are covered by their definitions [7]."""

from clobberwalk.flow import dominators_of
from clobberwalk.parts import defined_by, defined_in_block, things_of, used_by


def first_uncovered(function):
    """Find (block index, index, register) of the first use that is not covered, None for none.

    Each register of the function is defined at most once.
    """
    dominators = dominators_of(function)
    for b, block in enumerate(function[2]):
        # A block that is not reached has no dominators, and needs no definitions.
        if block[0] in dominators:
            found = _uncovered_in(block, _passed_before(function, block, dominators[block[0]]))
            if found is not None:
                return (b, *found)
    return None


def _passed_before(function, block, dominators):
    """List the registers that are defined on every way to the first instruction of the block."""
    passed = [*function[1], *block[1]]
    for other in function[2]:
        # The block dominates itself, but its instructions are still ahead.
        if other[0] in dominators and other[0] != block[0]:
            passed.extend(defined_in_block(other))
    return passed


def _uncovered_in(block, before):
    passed = list(before)
    for i, thing in enumerate(things_of(block)):
        for local in used_by(thing):
            if local not in passed:
                return (i, local)
        passed.extend(defined_by(thing))
    return None
