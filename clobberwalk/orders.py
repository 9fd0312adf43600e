"""The rows that a desk executes [45]."""

from clobberwalk.errors import InvalidRow, ParseError
from clobberwalk.limits import Limits
from clobberwalk.wording import Words

LOAD = "load\n"

# What follows the first word of a row: N a name, P a place, L the line of an instruction or an end, K a kind,
# M perhaps a number, V integers.
SHAPES = {
    "text": "", "insert": "PL", "replace": "PL", "delete": "P", "drop": "NN", "remove": "N", "forget": "N", "kind": "K",
    "undo": "M", "redo": "M", "run": "V", "holds": "NN", "given": "N", "live": "", "goals": "P", "words": "P",
    "changes": "", "table": "N",
}


def order_of(row):
    """Read a row: a tuple of its first word and a list of what follows; InvalidRow(row) for any value that is none.

    What follows try is a tuple of this form.
    """
    if not isinstance(row, str):
        raise InvalidRow(row)
    if row.startswith(LOAD):
        return ("load", [row[len(LOAD):]])
    words = Words(0, row)
    try:
        if words.due() != "try":
            return _take_order(words)
        words.take_if(True)
        return ("try", _take_order(words))
    except ParseError:
        raise InvalidRow(row) from None


def _take_order(words):
    word = words.take_if(words.due() in SHAPES)
    parts = []
    for sign in SHAPES[word]:
        take = READERS[sign]
        parts.extend(take(words))
    words.finish()
    return (word, parts)


def _take_name(words):
    return [words.take_name()]


def _take_place(words):
    return [(words.take_name(), words.take_name(), words.take_index())]


def _take_line(words):
    return [words.take_thing()]


def _take_kind(words):
    name = words.take_name()
    fields = words.take_names(Limits.MOST_FIELDS)
    if len(set(fields)) < len(fields):
        raise ParseError(words.line, words.at)
    return [(name, fields)]


def _take_many(words):
    return [] if words.due() is None else [words.take_index()]


def _take_inputs(words):
    inputs = []
    while words.due() is not None:
        inputs.append(words.take_integer())
    return [inputs]


READERS = {
    "N": _take_name, "P": _take_place, "L": _take_line, "K": _take_kind, "M": _take_many, "V": _take_inputs,
}
