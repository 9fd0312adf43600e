"""Certificates for facts, and against them [17]."""

from clobberwalk.asking import check_module, is_place
from clobberwalk.forms import is_integer
from clobberwalk.masks import bits_in
from clobberwalk.net import LIVE, Net
from clobberwalk.rules import rules_in, start_rule
from clobberwalk.spread import least_state


def why_fact(module, fact):
    """Make a derivation of a fact of the module; None for any other value."""
    check_module(module)
    net = Net(module)
    goal = _fact_of(net, fact)
    reasons = {}
    least_state(net, reasons)
    if goal not in reasons:
        return None
    needed = _needed_for(goal, reasons)
    order = {made: at for at, made in enumerate([made for made in reasons if made in needed])}
    entries = []
    for made in order:
        rule, needs = reasons[made]
        entries.append((rule.word, rule.place, _conclusion(net, made), tuple([order[need] for need in needs])))
    return entries


def is_derivation(module, fact, value):
    """Tell whether a value is a derivation of a fact; both may be any values."""
    check_module(module)
    net = Net(module)
    goal = _fact_of(net, fact)
    if not isinstance(value, (list, tuple)) or len(value) == 0:
        return False
    rules = {rule.place: rule for frame in net.all_frames() for rule in rules_in(net, frame)}
    made = []
    for entry in value:
        conclusion = _entry_makes(net, rules, made, entry)
        if conclusion is None:
            return False
        made.append(conclusion)
    return made[-1] == goal


def is_closed(module, facts, live):
    """Tell whether some facts and names of functions are closed; both may be any values."""
    check_module(module)
    if not isinstance(facts, (list, tuple)) or not isinstance(live, (list, tuple)):
        return False
    net = Net(module)
    told = [_fact_of(net, fact) for fact in facts] + [_live_of(net, name) for name in live]
    if None in told:
        return False
    masks = _state_of(net, told)
    rules = [start_rule(net)]
    for bit in bits_in(masks[LIVE]):
        rules.extend(rules_in(net, net.frames[net.name_of(bit)]))
    for rule in rules:
        for source, goal, only, _, _ in rule.links(masks):
            if masks[source] & only & ~masks[goal] > 0:
                return False
    return True


def _fact_of(net, value):
    """Tell a fact as a tuple (number of the holder, bit); None for any value that is none of the module."""
    if not isinstance(value, tuple) or len(value) != 2:
        return None
    number, bit = net.number_of(value[0]), net.bit_of(value[1])
    return None if number is None or bit == 0 else (number, bit)


def _live_of(net, name):
    """Tell a function that is live likewise."""
    return (LIVE, net.fun_bit(name)) if isinstance(name, str) and name in net.functions else None


def _conclusion_of(net, value):
    if isinstance(value, tuple) and len(value) == 2 and value[0] == "live":
        return _live_of(net, value[1])
    return _fact_of(net, value)


def _conclusion(net, made):
    number, bit = made
    if number == LIVE:
        return ("live", net.name_of(bit))
    return (net.holders[number], net.things_in(bit)[0])


def _needed_for(goal, reasons):
    """Collect a conclusion, what it needs, what that needs, and so on."""
    needed = {}
    waiting = [goal]
    while len(waiting) > 0:
        made = waiting.pop()
        if made not in needed:
            needed[made] = True
            waiting.extend(reasons[made][1])
    return needed


def _state_of(net, told):
    masks = net.empty_state()
    for number, bit in told:
        masks[number] |= bit
    return masks


def _entry_makes(net, rules, made, entry):
    """Tell the conclusion of an entry that follows from what was made before it; None if it does not."""
    if not isinstance(entry, tuple) or len(entry) != 4:
        return None
    word, place, conclusion, numbers = entry
    rule = _rule_of(net, rules, place)
    if rule is None or word != rule.word or not _are_indexes(numbers, len(made)):
        return None
    result = _conclusion_of(net, conclusion)
    masks = _state_of(net, [made[at] for at in numbers])
    if result is None or masks[LIVE] & rule.owner != rule.owner:
        return None
    goal, bit = result
    for source, other, only, _, _ in rule.links(masks):
        if other == goal and masks[source] & only & bit > 0:
            return result
    return None


def _rule_of(net, rules, place):
    if place is None:
        return start_rule(net)
    return rules.get(place) if is_place(place) else None


def _are_indexes(value, count):
    """Tell whether value is a tuple of indexes of so many entries."""
    return isinstance(value, tuple) and all([is_integer(at) and 0 <= at < count for at in value])
