"""What instructions, ends, blocks and functions of a right form consist of."""

from clobberwalk.forms import ENDS, INSTRUCTIONS


def parts_of(thing, sort):
    """List the parts of this sort of an instruction or an end, as they are written."""
    return [part for part, other in _sorted_parts(thing) if other == sort]


def defined_by(thing):
    """List the registers that an instruction or an end defines: one or none."""
    return parts_of(thing, "defined")


def used_by(thing):
    """List the registers that an instruction or an end uses, as they are written."""
    found = []
    for part, sort in _sorted_parts(thing):
        if sort == "used":
            found.append(part)
        elif sort == "args":
            found.extend(part)
    return found


def links_of(thing):
    """List the tuples (block, args) of an end; an instruction has none."""
    return list(zip(parts_of(thing, "block"), parts_of(thing, "args")))


def things_of(block):
    """List the instructions of a block, and its end behind them."""
    return [*block[2], block[3]]


def defined_in_block(block):
    """List the registers that are defined in a block, in their order."""
    found = list(block[1])
    for instruction in block[2]:
        found.extend(defined_by(instruction))
    return found


def defined_in_function(function):
    """List the registers that are defined in a function, in their order."""
    found = list(function[1])
    for block in function[2]:
        found.extend(defined_in_block(block))
    return found


def _sorted_parts(thing):
    word = thing[0]
    sorts = ENDS[word] if word in ENDS else INSTRUCTIONS[word]
    return list(zip(thing[1:], sorts))
