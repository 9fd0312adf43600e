"""The rules by which holders get things, at the places of a module [16].

A link is a tuple (source, goal, only, base, bit): the holder goal holds what the
holder source holds of the mask only, if the holder base holds the bit. The base
FULL needs nothing.
"""

from clobberwalk.masks import bits_in
from clobberwalk.net import FULL, LIVE, NONE, NUMBER
from clobberwalk.parts import LOADS, base_of, field_of, links_of, things_of

EVERY = -1

RULES = {
    "num": "make", "add": "make", "sub": "make", "mul": "make", "less": "make", "not": "make", "same": "make",
    "none": "make", "fun": "make", "new": "make", "row": "make", "go": "pass", "if": "pass", "put": "put", "set": "put",
    "get": "get", "at": "get", "call": "call", "ask": "ask", "give": "give",
}


class Rule:
    """The links that a rule makes at one place, and who has to be live for it."""

    def __init__(self, word, place, owner, fixed):
        self.word = word
        self.place = place
        self.owner = owner
        self.fixed = fixed
        # The links that a thing brings as soon as the base holds it: by its bit, tuples (source, goal).
        self.base = FULL
        self.brought = {}
        self.bringers = 0

    def bring(self, base, brought):
        """Let the things that base holds bring links."""
        self.base = base
        self.brought = brought
        for bit in brought:
            self.bringers |= bit

    def lasts(self):
        """Tell whether the links can have more to pass than in the beginning."""
        return self.base != FULL or len([link for link in self.fixed if link[0] != FULL]) > 0

    def links(self, masks):
        """List the links that there are in a state."""
        if self.base == FULL:
            return self.fixed
        found = list(self.fixed)
        for bit in bits_in(masks[self.base] & self.bringers):
            for source, goal in self.brought[bit]:
                found.append((source, goal, EVERY, self.base, bit))
        return found


def start_rule(net):
    """Make the rule by which main is live."""
    main = net.functions["main"]
    made = [(LIVE, net.fun_bit("main"))]
    made.extend([(net.homes["main"][local], net.bits[NUMBER]) for local in main[1]])
    return Rule("start", None, 0, _makes(made))


def rules_in(net, name):
    """List the rules at the places of the reached blocks of a function; a show makes nothing."""
    rules = []
    for block in net.blocks[name]:
        for i, thing in enumerate(things_of(block)):
            if thing[0] in RULES:
                rules.append(_rule_at(net, (name, block[0], i), thing))
    return rules


def _rule_at(net, place, thing):
    word = RULES[thing[0]]
    homes = net.homes[place[0]]
    rule = Rule(word, place, net.fun_bit(place[0]), [])
    if word == "make":
        rule.fixed = _makes(_made_at(net, place, thing, homes))
    elif word == "pass":
        rule.fixed = _passes(_passed_at(net, place, thing, homes))
    elif word == "give":
        rule.fixed = _passes([(homes[thing[1]], net.given[place[0]])])
    elif word == "put" or word == "get":
        _let_access(rule, net, thing, homes)
    elif word == "call":
        rule.fixed = _makes([(LIVE, net.fun_bit(thing[2]))]) + _passes(_called(net, thing, thing[2], homes))
    else:
        _let_ask(rule, net, thing, homes)
    return rule


def _makes(made):
    return [(FULL, goal, bit, FULL, 0) for goal, bit in made]


def _passes(passed):
    return [(source, goal, EVERY, FULL, 0) for source, goal in passed]


def _made_at(net, place, thing, homes):
    goal = homes[thing[1]]
    if thing[0] == "new" or thing[0] == "row":
        none = net.bits[NONE]
        return [(goal, net.bits[("site", place)]), *[(cell, none) for cell in net.cells[place].values()]]
    if thing[0] == "fun":
        return [(goal, net.fun_bit(thing[2]))]
    return [(goal, net.bits[NONE if thing[0] == "none" else NUMBER])]


def _passed_at(net, place, thing, homes):
    parameters = {block[0]: block[1] for block in net.blocks[place[0]]}
    found = []
    for name, args in links_of(thing):
        found.extend([(homes[local], homes[other]) for local, other in zip(args, parameters[name])])
    return found


def _called(net, thing, name, homes):
    """List what a call of a function passes: args to its parameters, and what it gives to the register."""
    theirs = net.homes[name]
    found = [(homes[local], theirs[other]) for local, other in zip(thing[3], net.functions[name][1])]
    found.append((net.given[name], homes[thing[1]]))
    return found


def _let_access(rule, net, thing, homes):
    cells = net.owners.get(field_of(thing), {})
    if thing[0] in LOADS:
        brought = {bit: [(cell, homes[thing[1]])] for bit, cell in cells.items()}
    else:
        brought = {bit: [(homes[thing[3]], cell)] for bit, cell in cells.items()}
    rule.bring(homes[base_of(thing)], brought)


def _let_ask(rule, net, thing, homes):
    base = homes[thing[2]]
    names = net.fitting(len(thing[3]))
    rule.bring(base, {net.fun_bit(name): _called(net, thing, name, homes) for name in names})
    rule.fixed = [(base, LIVE, rule.bringers, FULL, 0)]
