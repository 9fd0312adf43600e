"""Modules that are written as lines of words, as the document writes them."""


def module(text):
    """Make the module of a text; kinds and functions may stand in any order."""
    kinds, functions = [], []
    for line in text.strip().split("\n"):
        word, *rest = line.split()
        if word == "kind":
            kinds.append((rest[0], tuple(rest[1:])))
        elif word == "function":
            functions.append((rest[0], tuple(rest[1:]), []))
        elif word == "block":
            functions[-1][2].append([rest[0], tuple(rest[1:]), [], None])
        elif word in ("go", "if", "give"):
            functions[-1][2][-1][3] = thing(line)
        else:
            functions[-1][2][-1][2].append(thing(line))
    return (tuple(sorted(kinds)), tuple(sorted([
        (name, parameters, tuple([(*block[:2], tuple(block[2]), block[3]) for block in blocks]))
        for name, parameters, blocks in functions
    ])))


def thing(line):
    """Make the instruction or end of a line."""
    word, *rest = line.split()
    if word == "num":
        return (word, rest[0], int(rest[1]))
    if word in ("call", "ask"):
        return (word, *rest[:2], tuple(rest[2:]))
    if word == "go":
        return (word, rest[0], tuple(rest[1:]))
    if word == "if":
        at = rest.index("/")
        return (word, rest[0], rest[1], tuple(rest[2:at]), rest[at + 1], tuple(rest[at + 2:]))
    return (word, *rest)


def body(text, parameters="", kinds="kind box key left\nkind pair left right\nkind unit"):
    """Make a module of one function main of one block."""
    return module(f"{kinds}\nfunction main {parameters}\nblock a\n{text}")


def graph(text, parameters="x"):
    """Make a module of one function main from its edges: "a b c, b, c b" are a to b and c, b gives, c to b."""
    lines = [f"function main {parameters}"]
    for row in text.split(","):
        name, *goals = row.split()
        lines.append(f"block {name}")
        ends = {0: "give x", 1: "go {}", 2: "if x {} / {}"}
        lines.append(ends[len(goals)].format(*goals))
    return module("\n".join(lines))
