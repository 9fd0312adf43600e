"""The rules by which holders get things, at the places of a module [16].

A link is a tuple (source, goal, only, base, bit): the holder goal holds what the
holder source holds of the mask only, if the holder base holds the bit. The base
FULL needs nothing.
"""

from clobberwalk.masks import bits_in
from clobberwalk.net import FULL, NONE, NUMBER
from clobberwalk.parts import LOADS, MAKERS, base_of, field_of, links_of, things_of

EVERY = -1

RULES = {
    "num": "make", "add": "make", "sub": "make", "mul": "make", "less": "make", "not": "make", "same": "make",
    "none": "make", "fun": "make", "new": "make", "row": "make", "go": "pass", "if": "pass", "put": "put", "set": "put",
    "get": "get", "at": "get", "call": "call", "ask": "ask", "give": "give",
}


class Rule:
    """The links that a rule makes at one place, and who has to be live for it."""

    def __init__(self, word, place, owner, fixed):
        self.word = word
        self.place = place
        self.owner = owner
        self.fixed = fixed
        # The links that a thing brings as soon as the base holds it: by its bit, tuples (source, goal).
        self.base = FULL
        self.brought = {}
        self.bringers = 0

    def bring(self, base, brought):
        """Let the things that base holds bring links."""
        self.base = base
        self.brought = brought
        for bit in brought:
            self.bringers |= bit

    def lasts(self):
        """Tell whether the links can have more to pass than in the beginning."""
        return self.base != FULL or len([link for link in self.fixed if link[0] != FULL]) > 0

    def links(self, masks):
        """List the links that there are in a state."""
        if self.base == FULL:
            return self.fixed
        found = list(self.fixed)
        for bit in bits_in(masks[self.base] & self.bringers):
            for source, goal in self.brought[bit]:
                found.append((source, goal, EVERY, self.base, bit))
        return found


def start_rule(net):
    """Make the rule by which main is live."""
    frame = net.frames["main"]
    made = [(frame.alive, net.fun_bit("main"))]
    made.extend([(frame.homes[local], net.bits[NUMBER]) for local in net.functions["main"][1]])
    return Rule("start", None, 0, _makes(made))


def rules_in(net, frame):
    """List the rules at the places of the reached blocks of a frame's function; a show makes nothing."""
    rules = []
    for block in net.blocks[frame.name]:
        for i, thing in enumerate(things_of(block)):
            if thing[0] in RULES:
                rules.append(_rule_at(net, frame, (frame.name, block[0], i), thing))
    return rules


def _rule_at(net, frame, place, thing):
    word = RULES[thing[0]]
    homes = frame.homes
    rule = Rule(word, place, net.fun_bit(frame.name), [])
    if word == "make":
        rule.fixed = _makes(_made_at(net, place, thing, homes))
    elif word == "pass":
        rule.fixed = _passes(_passed_at(net, place, thing, homes))
    elif word == "give":
        rule.fixed = _passes([(homes[thing[1]], frame.given)])
    elif word == "put" or word == "get":
        _let_access(rule, net, thing, homes)
    elif word == "call":
        callee = net.frame_at(place, thing[2])
        rule.fixed = _makes([(callee.alive, net.fun_bit(callee.name))]) + _passes(_called(net, callee, thing, homes))
    else:
        _let_ask(rule, net, place, thing, homes)
    return rule


def _makes(made):
    return [(FULL, goal, bit, FULL, 0) for goal, bit in made]


def _passes(passed):
    return [(source, goal, EVERY, FULL, 0) for source, goal in passed]


def _made_at(net, place, thing, homes):
    goal = homes[thing[1]]
    if thing[0] in MAKERS:
        none = net.bits[NONE]
        return [(goal, net.bits[("site", place)]), *[(cell, none) for cell in net.cells[place].values()]]
    if thing[0] == "fun":
        return [(goal, net.fun_bit(thing[2]))]
    return [(goal, net.bits[NONE if thing[0] == "none" else NUMBER])]


def _passed_at(net, place, thing, homes):
    parameters = {block[0]: block[1] for block in net.blocks[place[0]]}
    found = []
    for name, args in links_of(thing):
        found.extend([(homes[local], homes[other]) for local, other in zip(args, parameters[name])])
    return found


def _called(net, callee, thing, homes):
    """List what a call of a function passes: args to its parameters, and what it gives to the register."""
    parameters = net.functions[callee.name][1]
    found = [(homes[local], callee.homes[other]) for local, other in zip(thing[3], parameters)]
    found.append((callee.given, homes[thing[1]]))
    return found


def _let_access(rule, net, thing, homes):
    cells = net.owners.get(field_of(thing), {})
    if thing[0] in LOADS:
        brought = {bit: [(cell, homes[thing[1]])] for bit, cell in cells.items()}
    else:
        brought = {bit: [(homes[thing[3]], cell)] for bit, cell in cells.items()}
    rule.bring(homes[base_of(thing)], brought)


def _let_ask(rule, net, place, thing, homes):
    base = homes[thing[2]]
    callees = {net.fun_bit(name): net.frame_at(place, name) for name in net.askable(place, thing)}
    rule.bring(base, {bit: _called(net, callee, thing, homes) for bit, callee in callees.items()})
    rule.fixed = [(base, callee.alive, bit, FULL, 0) for bit, callee in callees.items()]
