"""How a module's instructions and ends are done, one step after another [6, 8, 9].

Integers and None stand for themselves, ("fun", name) for a function, and
("object", number) or ("row", number) for what was made; so two values are the
same if they are equal.
"""

from clobberwalk.forms import GREATEST
from clobberwalk.limits import Limits
from clobberwalk.parts import LOADS, base_of, field_of, index_of, links_of


class Activity:
    """A call of a function that is not finished: where it is, and what its registers hold."""

    def __init__(self, function, values, receiver):
        self.name = function[0]
        self.blocks = {block[0]: block for block in function[2]}
        self.block = function[2][0]
        self.index = 0
        self.held = dict(zip(function[1], values))
        # The register of the caller that gets the value, None for main's own run.
        self.receiver = receiver


class Process:
    """A run of a module, as far as it was done."""

    def __init__(self, module, inputs):
        self.fields = {kind[0]: kind[1] for kind in module[0]}
        self.functions = {function[0]: function for function in module[1]}
        self.calls = [Activity(self.functions["main"], inputs, None)]
        self.outputs = []
        self.steps = 0
        self.made = []
        # For each object its kind and a dict of its fields, for each row "" and a list.
        self.stores = []
        self.touches = []
        self.end = None

    def go_on(self, limit):
        """Do steps until the run ends, or so many are done."""
        while self.end is None:
            if self.steps == limit:
                self.end = ("limit",)
            else:
                self.step()

    def step(self):
        """Do the instruction or end that is due."""
        call = self.calls[-1]
        block, index = call.block, call.index
        thing = block[2][index] if index < len(block[2]) else block[3]
        # An end and a call leave this place, so it is left ahead of them.
        call.index += 1
        action = ACTIONS[thing[0]]
        fault = action(self, call, thing)
        self.steps += 1
        if fault is not None:
            self.end = ("fault", fault, (call.name, block[0], index))

    def make(self, call, local, word, store):
        """Keep a new object or row; the register holds it."""
        call.held[local] = (word, len(self.stores))
        self.stores.append(store)
        self.made.append((call.name, call.block[0], call.index - 1))

    def touch(self, call, number, cell):
        """Note that a cell is read or written by the present step."""
        self.touches.append(((call.name, call.block[0], call.index - 1), (number, cell), self.steps))

    def enter(self, call, name, passed, receiver):
        """Begin a call of a function, or tell the fault of too many."""
        if len(self.calls) > Limits.MOST_CALLS:
            return "deep"
        self.calls.append(Activity(self.functions[name], [call.held[local] for local in passed], receiver))
        return None

    def leave(self, value):
        """Finish the last call, which gives a value."""
        call = self.calls.pop()
        if call.receiver is None:
            self.end = ("value", self.shown(value))
        else:
            self.calls[-1].held[call.receiver] = value

    def shown(self, value):
        """Tell a value as the end of a run tells it."""
        if not isinstance(value, tuple) or value[0] == "fun":
            return value
        kind, store = self.stores[value[1]]
        return ("row", len(store)) if value[0] == "row" else ("object", kind)


def _is_made(value, word):
    """Tell whether a value is an object, or a row, as the word says."""
    return isinstance(value, tuple) and value[0] == word


def _do_num(_, call, thing):
    call.held[thing[1]] = thing[2]


def _do_none(_, call, thing):
    call.held[thing[1]] = None


def _do_fun(_, call, thing):
    call.held[thing[1]] = ("fun", thing[2])


def _do_sum(_, call, thing):
    word, local, first, second = thing
    one, other = call.held[first], call.held[second]
    if not isinstance(one, int) or not isinstance(other, int):
        return "number"
    if word == "less":
        call.held[local] = 1 if one < other else 0
        return None
    if word == "add":
        result = one + other
    else:
        result = one - other if word == "sub" else one * other
    if abs(result) > GREATEST:
        return "great"
    call.held[local] = result
    return None


def _do_not(_, call, thing):
    value = call.held[thing[2]]
    if not isinstance(value, int):
        return "number"
    call.held[thing[1]] = 1 if value == 0 else 0
    return None


def _do_same(_, call, thing):
    call.held[thing[1]] = 1 if call.held[thing[2]] == call.held[thing[3]] else 0


def _do_new(process, call, thing):
    fields = {field: None for field in process.fields[thing[2]]}
    process.make(call, thing[1], "object", (thing[2], fields))


def _do_row(process, call, thing):
    length = call.held[thing[2]]
    if not isinstance(length, int):
        return "number"
    if not 0 <= length <= Limits.MOST_ELEMENTS:
        return "length"
    process.make(call, thing[1], "row", ("", [None] * length))
    return None


def _do_field(process, call, thing):
    base = call.held[base_of(thing)]
    field = field_of(thing)
    if not _is_made(base, "object") or field not in process.stores[base[1]][1]:
        return "object"
    _do_access(process, call, thing, base[1], field)
    return None


def _do_element(process, call, thing):
    base = call.held[base_of(thing)]
    index = call.held[index_of(thing)]
    if not isinstance(index, int):
        return "number"
    if not _is_made(base, "row"):
        return "row"
    if not 0 <= index < len(process.stores[base[1]][1]):
        return "index"
    _do_access(process, call, thing, base[1], index)
    return None


def _do_access(process, call, thing, number, cell):
    store = process.stores[number][1]
    if thing[0] in LOADS:
        call.held[thing[1]] = store[cell]
    else:
        store[cell] = call.held[thing[3]]
    process.touch(call, number, cell)


def _do_call(process, call, thing):
    return process.enter(call, thing[2], thing[3], thing[1])


def _do_ask(process, call, thing):
    value = call.held[thing[2]]
    if not _is_made(value, "fun") or len(process.functions[value[1]][1]) != len(thing[3]):
        return "function"
    return process.enter(call, value[1], thing[3], thing[1])


def _do_show(process, call, thing):
    value = call.held[thing[1]]
    if not isinstance(value, int):
        return "number"
    process.outputs.append(value)
    return None


def _do_go(_, call, thing):
    _pass_to(call, links_of(thing)[0])


def _do_if(_, call, thing):
    value = call.held[thing[1]]
    if not isinstance(value, int):
        return "number"
    links = links_of(thing)
    _pass_to(call, links[0] if value != 0 else links[1])
    return None


def _pass_to(call, link):
    name, args = link
    values = [call.held[local] for local in args]
    call.block = call.blocks[name]
    call.index = 0
    for local, value in zip(call.block[1], values):
        call.held[local] = value


def _do_give(process, call, thing):
    process.leave(call.held[thing[1]])


ACTIONS = {
    "num": _do_num, "none": _do_none, "fun": _do_fun, "add": _do_sum, "sub": _do_sum, "mul": _do_sum, "less": _do_sum,
    "not": _do_not, "same": _do_same, "new": _do_new, "row": _do_row, "get": _do_field, "put": _do_field,
    "at": _do_element, "set": _do_element, "call": _do_call, "ask": _do_ask, "show": _do_show,
    "go": _do_go, "if": _do_if, "give": _do_give,
}
