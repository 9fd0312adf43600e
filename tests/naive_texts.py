"""Second answers about texts: for each sort of line all forms that it can have."""

import re

from written import thing

NAME, NUMBER = re.compile("[a-z]{1,8}"), re.compile("0|-?[1-9][0-9]{0,40}")
PARTS = {
    "none": "n", "fun": "nn", "add": "nnn", "sub": "nnn", "mul": "nnn", "less": "nnn", "not": "nn", "same": "nnn", "new": "nn",
    "row": "nn", "get": "nnn", "put": "nnn", "at": "nnn", "set": "nnn", "show": "n", "num": "ni", "give": "n",
}
TUPLES = {"call": "nn", "ask": "nn", "go": "n", "kind": "n", "function": "n", "block": "n"}
MOST = {"function": 4}
ENDS = ("go", "if", "give")


class Wrong(Exception):
    pass


def forms_of(word):
    """List what can follow a first word: strings of n for a name, i for an integer, / for itself."""
    if word in PARTS:
        return [PARTS[word]]
    if word in TUPLES:
        return [TUPLES[word] + "n" * many for many in range(MOST.get(word, 6) + 1)]
    if word == "if":
        return ["nn" + "n" * one + "/n" + "n" * other for one in range(7) for other in range(7)]
    return []


def fits(sign, word):
    if sign == "i":
        return bool(NUMBER.fullmatch(word)) and abs(int(word)) <= 10 ** 40
    return word == "/" if sign == "/" else bool(NAME.fullmatch(word))


def first_wrong(words):
    """Tell the index of the first word of a line that cannot stand there, None if all can and none has to follow."""
    longest, whole = 0, False
    for form in forms_of(words[0]):
        many = 0
        while many < min(len(form), len(words) - 1) and fits(form[many], words[many + 1]):
            many += 1
        longest = max(longest, many + 1)
        whole = whole or many == len(form) == len(words) - 1
    return None if whole else longest


def allowed(sorts):
    """Tell the first words that can follow on some sorts of lines: k f b, i for an instruction, e for an end."""
    if not sorts or sorts[-1] == "k":
        return ["kind"] * (len(sorts) < 8) + ["function"]
    if sorts[-1] == "f":
        return ["block"]
    if sorts[-1] in "bi":
        many = len(sorts) - 1 - sorts.rindex("b")
        things = [word for word in (*PARTS, "call", "ask") if word not in ENDS]
        return list(ENDS) + (things if many < 40 else [])
    blocks = sorts[sorts.rindex("f"):].count("b")
    return ["block"] * (blocks < 12) + ["function"] * (sorts.count("f") < 8)


def read_text(text):
    """Make what a text writes, whether it is a module or not; Wrong(line, word)."""
    kinds, functions, sorts = [], [], ""
    lines = text.split("\n")
    for at, line in enumerate(lines):
        words = line.split(" ")
        if words[0] not in allowed(sorts):
            raise Wrong(at, 0)
        wrong = first_wrong(words)
        if wrong is not None:
            raise Wrong(at, wrong)
        if words[0] in ("kind", "function", "block"):
            sorts += words[0][0]
        else:
            sorts += "e" if words[0] in ENDS else "i"
        if words[0] == "kind":
            kinds.append((words[1], tuple(words[2:])))
        elif words[0] == "function":
            functions.append([words[1], tuple(words[2:]), []])
        elif words[0] == "block":
            functions[-1][2].append([words[1], tuple(words[2:]), [], None])
        elif words[0] in ENDS:
            functions[-1][2][-1][3] = thing(line)
        else:
            functions[-1][2][-1][2].append(thing(line))
    if sorts[-1] != "e":
        raise Wrong(len(lines), 0)
    return (tuple(kinds), tuple([
        (name, parameters, tuple([(block, own, tuple(things), end) for block, own, things, end in blocks]))
        for name, parameters, blocks in functions
    ]))
