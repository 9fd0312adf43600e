"""Which uses of registers are covered by their definitions [7]."""

from clobberwalk.flow import dominators_of, goals_by_index
from clobberwalk.masks import indexes_in
from clobberwalk.parts import DEFINING_NONE, defined_in_block, used_by


def first_uncovered(function):
    """Find (block index, index, register) of the first use that is not covered, None for none.

    Each register of the function is defined at most once.
    """
    dominators = dominators_of(goals_by_index(function))
    defined = [{local: True for local in defined_in_block(block)} for block in function[2]]
    for b, block in enumerate(function[2]):
        # A block that is not reached has no dominators, and needs no definitions.
        if dominators[b] > 0:
            passed = {local: True for local in [*function[1], *block[1]]}
            # The block dominates itself, but its instructions are still ahead.
            for other in indexes_in(dominators[b] ^ (1 << b)):
                passed.update(defined[other])
            found = _uncovered_in(block, passed)
            if found is not None:
                return (b, *found)
    return None


def _uncovered_in(block, passed):
    """Find (index, register) of the first use before which its register was not passed; passed grows."""
    for i, thing in enumerate(block[2]):
        for local in used_by(thing):
            if local not in passed:
                return (i, local)
        if thing[0] not in DEFINING_NONE:
            passed[thing[1]] = True
    for local in used_by(block[3]):
        if local not in passed:
            return (len(block[2]), local)
    return None
