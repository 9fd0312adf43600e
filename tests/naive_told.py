"""Second answers about faults, calls and effects, from the facts that naive tells."""

import naive
from naive import NONE, NUMBER

WORDS = ("number", "great", "length", "object", "row", "index", "function", "deep")
INTEGERS = {
    "add": (2, 3), "sub": (2, 3), "mul": (2, 3), "less": (2, 3), "not": (2,), "row": (2,), "show": (1,), "if": (1,),
    "at": (3,), "set": (2,),
}


class Told:
    def __init__(self, module):
        self.module = module
        self.world = naive.World(module)
        self.facts, self.live = naive.closure(module)
        self.calls = {
            place: self.goals(place, thing) for place, thing in self.world.places
            if thing[0] in ("call", "ask") and place[0] in self.live
        }

    def held(self, *holder):
        return {thing for one, thing in self.facts if one == holder}

    def of(self, f, local):
        return self.held("register", f, local)

    def goals(self, place, thing):
        if place[0] not in self.live:
            return set()
        if thing[0] == "call":
            return {thing[2]}
        return {
            one[1] for one in self.of(place[0], thing[2])
            if one[0] == "fun" and len(self.world.functions[one[1]][1]) == len(thing[3])
        }

    def called(self, f):
        return {goal for place, goals in self.calls.items() if place[0] == f for goal in goals}

    def can_call(self, f):
        found = set()
        while True:
            more = self.called(f).union(*[self.called(name) for name in found])
            if more <= found:
                return found
            found |= more

    def ring(self, f):
        return {name for name in self.can_call(f) if f in self.can_call(name)}

    def rings(self):
        return sorted({tuple(sorted(self.ring(f))) for f in self.live if self.ring(f)})

    def level(self, f):
        if f not in self.live:
            return None
        group = self.ring(f) or {f}
        return max([self.level(name) + 1 for one in group for name in self.called(one) if name not in group], default=0)

    def shortest(self, f):
        """Tell the length of a shortest chain, None if there is none."""
        if f == "main":
            return 0
        reached, length = {"main"}, 0
        while True:
            length += 1
            following = {name for one in reached for name in self.called(one)}
            if f in following:
                return length
            if following <= reached:
                return None
            reached |= following

    def num(self, f, local):
        for _, _, things, _ in self.world.functions[f][2]:
            for thing in things:
                if thing[:2] == ("num", local):
                    return thing[2]
        return None

    def made(self, one, word):
        return one[0] == "site" and self.world.things[one[1]][0] == word

    def has(self, one, field):
        return one[0] == "site" and field in self.world.fields_at(one[1])

    def base_field(self, thing):
        base = thing[2] if thing[0] in ("get", "at") else thing[1]
        return base, thing[3] if thing[0] == "get" else thing[2] if thing[0] == "put" else None

    def words(self, place):
        thing, f = self.world.things[place], place[0]
        if f not in self.live or not all([self.of(f, local) for local in naive.uses_of(thing)]):
            return ()
        found = {"number"} if any([self.of(f, thing[at]) - {NUMBER} for at in INTEGERS.get(thing[0], ())]) else set()
        if thing[0] in ("add", "sub", "mul") and NUMBER in self.of(f, thing[2]) & self.of(f, thing[3]):
            found.add("great")
        if thing[0] == "row" and NUMBER in self.of(f, thing[2]) and self.num(f, thing[2]) not in range(61):
            found.add("length")
        if thing[0] in ("get", "put", "at", "set"):
            found |= self.access_words(f, thing)
        if thing[0] == "ask" and {("fun", name) for name in self.goals(place, thing)} != self.of(f, thing[2]):
            found.add("function")
        if self.calls.get(place) and any([self.ring(name) and f in self.can_call(name) for name in self.live]):
            found.add("deep")
        return tuple([word for word in WORDS if word in found])

    def access_words(self, f, thing):
        base, field = self.base_field(thing)
        held = self.of(f, base)
        if field is not None:
            return set() if all([self.has(one, field) for one in held]) else {"object"}
        found = set() if all([self.made(one, "row") for one in held]) else {"row"}
        index = thing[3] if thing[0] == "at" else thing[2]
        rows = [one[1] for one in held if self.made(one, "row")]
        lengths = [self.num(place[0], self.world.things[place][2]) for place in rows]
        at = self.num(f, index)
        known = at is not None and None not in lengths and at >= 0 and all([at < length for length in lengths])
        if rows and NUMBER in self.of(f, index) and not known:
            found.add("index")
        return found

    def is_sure(self, place):
        thing, words, f = self.world.things[place], self.words(place), place[0]
        if words not in (("object",), ("row",)):
            return not words
        base, field = self.base_field(thing)
        family = ("get", "put") if field is not None else ("at", "set")
        before = [
            other for other, one in self.world.places
            if one[0] in family and self.base_field(one)[0] == base and self.dominates(other, place)
        ]
        new = [one for one in self.of(f, base) if self.made(one, "new")]
        return bool(before) and (field is None or all([self.has(one, field) for one in new]))

    def dominates(self, place, other):
        if place[0] != other[0]:
            return False
        if place[1] == other[1]:
            return place[2] < other[2]
        return other[1] not in naive.reached_names(self.world.functions[place[0]], place[1])

    def sorts(self, f, local):
        names = {"fun": "function", "none": "none", "number": "number"}
        return tuple(sorted({
            names.get(one[0]) or ("row" if self.made(one, "row") else "object") for one in self.of(f, local)
        }))

    def cells(self, place):
        base, field = self.base_field(self.world.things[place])
        return {naive.cell(one[1], field) for one in self.of(place[0], base) if self.has(one, field)}

    def touches(self, f, words):
        names = self.can_call(f) | {f}
        return {
            cell for place, thing in self.world.places if place[0] in names and thing[0] in words
            for cell in self.cells(place)
        }

    def reads(self, f):
        return self.touches(f, ("get", "at"))

    def writes(self, f):
        return self.touches(f, ("put", "set"))

    def shows(self, f):
        names = (self.can_call(f) | {f}) & self.live
        return any([place[0] in names and thing[0] == "show" for place, thing in self.world.places])

    def reach(self, things):
        found = set(things)
        while True:
            more = {thing for holder, thing in self.facts if holder[0] in ("field", "element") and ("site", holder[1]) in found}
            if more <= found:
                return found
            found |= more

    def opened(self, f, cells):
        parameters = self.world.functions[f][1]
        outside = self.reach(set().union(*[self.of(f, local) for local in parameters]))
        return {cell for cell in cells if ("site", cell[1]) in outside}

    def is_calm(self, f):
        return f in self.live and not self.opened(f, self.writes(f)) and not self.shows(f)
