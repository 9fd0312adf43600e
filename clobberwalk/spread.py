"""The least state that the rules of a module make [16]."""

from clobberwalk.masks import bits_in
from clobberwalk.net import FULL, LIVE
from clobberwalk.rules import rules_in, start_rule


def least_state(net, reasons):
    """Do the rules until they make nothing more.

    If reasons is a dict, it gets for each tuple (holder, bit), in the order in which they are made, the rule and
    the tuples that it needed.
    """
    masks = net.empty_state()
    _spread(start_rule(net), masks, reasons)
    waiting = net.all_frames()
    lasting = []
    changed = True
    while changed:
        changed = False
        begun = [frame for frame in waiting if masks[frame.alive] & net.fun_bit(frame.name) > 0]
        waiting = [frame for frame in waiting if masks[frame.alive] & net.fun_bit(frame.name) == 0]
        for frame in begun:
            changed = True
            for rule in rules_in(net, frame):
                _spread(rule, masks, reasons)
                if rule.lasts():
                    lasting.append(rule)
        for rule in lasting:
            if _spread(rule, masks, reasons):
                changed = True
    return masks


def _spread(rule, masks, reasons):
    """Put what a rule makes into a state; tell whether it was more."""
    changed = False
    for link in rule.links(masks):
        source, goal, only, _, _ = link
        more = masks[source] & only & ~masks[goal]
        if more > 0:
            if reasons is not None:
                _note(reasons, rule, link, more)
            masks[goal] |= more
            changed = True
    return changed


def _note(reasons, rule, link, more):
    source, goal, _, base, brought = link
    for bit in bits_in(more):
        needs = []
        if rule.owner > 0:
            needs.append((LIVE, rule.owner))
        if source != FULL:
            needs.append((source, bit))
        if base != FULL:
            needs.append((base, brought))
        reasons[(goal, bit)] = (rule, needs)
