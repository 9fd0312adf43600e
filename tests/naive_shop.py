"""Second answers about edits and what they change: each new or row has a number of its own that goes with it."""

import itertools

from clobberwalk.facts import facts, live
from clobberwalk.steps import after


class Numbered:
    """A module as lists, in which each instruction goes with a number."""

    fresh = itertools.count()

    def __init__(self, module):
        self.kinds = dict(module[0])
        self.functions = {
            name: (parameters, [self.block(block) for block in blocks]) for name, parameters, blocks in module[1]
        }

    def block(self, block):
        name, parameters, things, end = block
        return [name, parameters, [(next(self.fresh), thing) for thing in things], end]

    def copy(self):
        other = Numbered(((), ()))
        other.kinds = dict(self.kinds)
        other.functions = {
            name: (parameters, [[one, two, list(things), end] for one, two, things, end in blocks])
            for name, (parameters, blocks) in self.functions.items()
        }
        return other

    def module(self):
        return (
            tuple(sorted(self.kinds.items())),
            tuple([
                (name, parameters, tuple([
                    (one, two, tuple([thing for _, thing in things]), end) for one, two, things, end in blocks
                ])) for name, (parameters, blocks) in sorted(self.functions.items())
            ]),
        )

    def numbers(self):
        """Map the places of all news and rows to their numbers."""
        return {
            (f, block[0], at): number for f, (_, blocks) in self.functions.items() for block in blocks
            for at, (number, thing) in enumerate(block[2]) if thing[0] in ("new", "row")
        }

    def find(self, f, name):
        return [block for block in self.functions[f][1] if block[0] == name][0]

    def edit(self, edit):
        """Do an edit that can be done."""
        word, where = edit[0], edit[1]
        if word == "insert":
            self.find(*where[:2])[2].insert(where[2], (next(self.fresh), edit[2]))
        elif word == "delete":
            self.find(*where[:2])[2].pop(where[2])
        elif word == "replace":
            block = self.find(*where[:2])
            if where[2] < len(block[2]):
                block[2][where[2]] = (next(self.fresh), edit[2])
            else:
                block[3] = edit[2]
        elif word in ("block", "drop"):
            blocks = self.functions[where][1]
            names = [block[0] for block in blocks]
            name = edit[2][0] if word == "block" else edit[2]
            at = names.index(name) if name in names else len(names)
            blocks[at:at + 1] = [self.block(edit[2])] if word == "block" else []
        elif word == "function":
            self.functions[where[0]] = (where[1], [self.block(block) for block in where[2]])
        elif word == "kind":
            self.kinds[where[0]] = where[1]
        elif word in ("remove", "forget"):
            del (self.functions if word == "remove" else self.kinds)[where]
        else:
            self.step(where)

    def step(self, step):
        """Do a step: what stays goes with its number, at its place or one before it."""
        module = after(self.module(), step)
        if step[0] == "function":
            del self.functions[step[1]]
            return
        f, name, index = step[1]
        things = self.find(f, name)[2]
        if step[0] in ("load", "store", "unused"):
            del things[index]
        for function in module[1]:
            for block in function[2]:
                own = self.find(function[0], block[0])
                own[2] = [(number, thing) for (number, _), thing in zip(own[2], block[2], strict=True)]
                own[3] = block[3]


def renamed(fact, moved):
    """Name a fact by the places of its sites afterwards; None if one of them went."""
    holder, thing = fact
    if thing[0] == "site":
        thing = ("site", moved.get(thing[1]))
    if holder[0] in ("field", "element"):
        holder = (holder[0], moved.get(holder[1]), *holder[2:])
    return None if None in (*holder, *thing) else (holder, thing)


def changes(before, after_it):
    """Tell the four lists between two numbered modules."""
    numbers = {number: place for place, number in after_it.numbers().items()}
    moved = {place: numbers[number] for place, number in before.numbers().items() if number in numbers}
    old, new = facts(before.module()), facts(after_it.module())
    stayed = {renamed(fact, moved) for fact in old} & set(new)
    lives = set(live(before.module())), set(live(after_it.module()))
    return (
        sorted([fact for fact in old if renamed(fact, moved) not in stayed], key=repr),
        sorted(set(new) - stayed, key=repr), sorted(lives[0] - lives[1]), sorted(lives[1] - lives[0]),
    )


def places_of(module):
    """List (place, thing) of all blocks, reached or not."""
    return [
        ((function[0], block[0], at), thing) for function in module[1] for block in function[2]
        for at, thing in enumerate((*block[2], block[3]))
    ]
