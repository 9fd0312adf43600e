"""What instructions, ends, blocks and functions of a right form consist of."""

# The indexes of the tuples of used registers; the single ones stand before them.
ARGS_AT = {"call": (3,), "ask": (3,), "go": (2,), "if": (3, 5)}

# Where the single used registers stand: from, to, by. Other words have none.
USED_AT = {
    "add": (2, 4, 1), "sub": (2, 4, 1), "mul": (2, 4, 1), "less": (2, 4, 1), "same": (2, 4, 1), "at": (2, 4, 1),
    "not": (2, 3, 1), "row": (2, 3, 1), "get": (2, 3, 1), "ask": (2, 3, 1),
    "put": (1, 4, 2), "set": (1, 4, 1),
    "show": (1, 2, 1), "if": (1, 2, 1), "give": (1, 2, 1),
}

# The words of the instructions that define no register; all others define their first part.
DEFINING_NONE = ("put", "set", "show")

MAKERS = ("new", "row")
LOADS = ("get", "at")
STORES = ("put", "set")
ACCESSES = ("get", "at", "put", "set")
CALLS = ("call", "ask")


def used_by(thing):
    """Tell the registers that an instruction or an end uses, as they are written."""
    word = thing[0]
    found = ()
    if word in USED_AT:
        first, last, by = USED_AT[word]
        found = thing[first:last:by]
    if word in ARGS_AT:
        for at in ARGS_AT[word]:
            found = found + thing[at]
    return found


def with_other_use(thing, local, other):
    """Make the instruction or end that uses another register wherever this one uses a register."""
    word = thing[0]
    found = list(thing)
    if word in USED_AT:
        first, last, by = USED_AT[word]
        for at in range(first, last, by):
            if thing[at] == local:
                found[at] = other
    if word in ARGS_AT:
        for at in ARGS_AT[word]:
            found[at] = tuple([other if name == local else name for name in thing[at]])
    return tuple(found)


def base_of(access):
    """Tell the register by which an access finds its object or row."""
    return access[2] if access[0] in LOADS else access[1]


def index_of(access):
    """Tell the register of the index of an at or a set."""
    return access[3] if access[0] == "at" else access[2]


def field_of(access):
    """Tell the field of an access, None if it is of elements."""
    if access[0] == "get":
        return access[3]
    return access[2] if access[0] == "put" else None


def links_of(end):
    """List the tuples (block, args) of an end."""
    return [(end[at - 1], end[at]) for at in ARGS_AT.get(end[0], ())]


def goals_of(end):
    """List the names of the blocks to which an end leads."""
    return [end[at - 1] for at in ARGS_AT.get(end[0], ())]


def things_of(block):
    """List the instructions of a block, and its end behind them."""
    return [*block[2], block[3]]


def defined_in_block(block):
    """List the registers that are defined in a block, in their order."""
    return [*block[1], *[thing[1] for thing in block[2] if thing[0] not in DEFINING_NONE]]


def defined_in_function(function):
    """List the registers that are defined in a function, in their order."""
    found = list(function[1])
    for block in function[2]:
        found.extend(defined_in_block(block))
    return found
