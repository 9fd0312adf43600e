"""Modules and values that several tests use."""

# Words, names and numbers of each sort of part: one instruction for each word.
EVERY_WORD = (
    ("num", "n", 5),
    ("none", "o"),
    ("fun", "g", "twin"),
    ("add", "aa", "n", "n"),
    ("sub", "ab", "n", "aa"),
    ("mul", "ac", "ab", "n"),
    ("less", "ad", "n", "ac"),
    ("not", "ae", "ad"),
    ("same", "af", "o", "g"),
    ("new", "p", "pair"),
    ("row", "q", "n"),
    ("get", "ag", "p", "left"),
    ("put", "p", "right", "q"),
    ("at", "ah", "q", "n"),
    ("set", "q", "n", "p"),
    ("call", "ai", "twin", ("n", "p")),
    ("ask", "aj", "g", ("ai", "ah")),
    ("show", "n"),
)

KINDS = (("pair", ("left", "right")), ("unit", ()))

TWIN = ("twin", ("a", "b"), (("only", (), (), ("give", "a")),))

# Every word of an instruction and of an end, a loop, blocks with parameters,
# an if with both arms to one block, and a block that is not reached.
RICH = (
    KINDS,
    (
        ("main", ("x",), (
            ("start", (), EVERY_WORD, ("go", "loop", ("x", "p"))),
            ("loop", ("i", "j"), (("sub", "k", "i", "n"),), ("if", "k", "loop", ("k", "p"), "both", ())),
            ("both", (), (("show", "k"),), ("if", "k", "done", ("p",), "done", ("q",))),
            ("done", ("r",), (("put", "r", "left", "j"),), ("give", "r")),
            ("dead", ("s",), (("show", "nowhere"),), ("go", "done", ("s",))),
        )),
        TWIN,
    ),
)

# The module of the section of the document on texts.
EXAMPLE = (
    (("pair", ("left", "right")),),
    (
        ("main", ("n",), (
            ("start", (), (("new", "p", "pair"), ("put", "p", "left", "n")), ("go", "loop", ("n",))),
            ("loop", ("k",), (("get", "q", "p", "left"),), ("if", "k", "done", ("q",), "loop", ("k",))),
            ("done", ("r",), (), ("give", "r")),
        )),
    ),
)

# The module with which a desk begins.
SMALL = ((), (("main", (), (("a", (), (("none", "x"),), ("give", "x")),)),))


def deep(value, levels):
    """Put a value into so many lists, one in the other."""
    for _ in range(levels):
        value = [value]
    return value


# Values of every kind that is any value; none of them fits as a part of a
# module, but () as a tuple of names and the integers as that of a num.
STRAY_INTEGERS = (0, 1, -1, 7, 10 ** 40, 10 ** 79)
STRAYS = (
    None, True, False, *STRAY_INTEGERS,
    "", "A", "a b", "aB", "a1", "a\n", "ninelette", "num r 1", "~",
    (), (1,), ("a", 1), ("A",), ("a", ["b"]), (None, None), ((), ()), ((), [()]), (("a",),), ("num",), ("num", "r"),
    ("give",), (["num"], "r", 1), ({}, "a"),
    [], [1], ["a"], [[], []], ["a", []], ["num", "r", 1], [(), ()],
    {}, {"a": 1}, {1: ()}, {(): []}, {"kinds": (), "functions": ()},
    deep(None, 12), deep((), 11), (deep("a", 10),), {"a": deep({}, 10)},
)


def names(count):
    """List so many names, ascending."""
    signs = "abcdefghijklmnopqrstuvwxyz"
    return [first + second for first in signs for second in signs][:count]


def one_function(*blocks, parameters=(), kinds=KINDS):
    """Make a module of a function main of these blocks."""
    return (kinds, (("main", parameters, blocks),))


def one_block(*instructions, end=("give", "x"), parameters=("x", "y"), kinds=KINDS):
    """Make a module of one block; its registers x and y are parameters of main."""
    return one_function(("a", (), instructions, end), parameters=parameters, kinds=kinds)


def replaced(value, path, part):
    """Make the nested tuple in which the part at a path of indexes is another one."""
    if not path:
        return part
    at = path[0]
    return value[:at] + (replaced(value[at], path[1:], part),) + value[at + 1:]


def part_at(value, path):
    """Follow a path of indexes into a nested tuple."""
    for at in path:
        value = value[at]
    return value


def paths(value):
    """List the paths of all parts of a nested tuple, and of the tuple itself."""
    found = [()]
    if isinstance(value, tuple):
        for at, part in enumerate(value):
            found.extend([(at, *path) for path in paths(part)])
    return found


def sizes(count):
    """Make a module of so many instructions and ends together."""
    blocks = []
    while count > 0:
        many = min(count, 41)
        blocks.append((names(50)[len(blocks)], (), (("show", "x"),) * (many - 1), ("give", "x")))
        count -= many
    return one_function(*blocks, parameters=("x",))
