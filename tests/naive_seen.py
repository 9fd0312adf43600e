"""Second answers about what leaves, views, meetings, writers and steps, from the words of the document."""

import naive
import naive_told
from naive import NONE, NUMBER


def paths_around(told, place):
    """List the paths of a site: all lists of unlike holders that fit, up to three of them."""
    f = place[0]
    starts = [("given", f), *[("register", f, local) for local in told.world.functions[f][1]]]
    found, lines = [], [[holder] for holder in starts]
    while lines:
        found.extend([line for line in lines if ("site", place) in told.held(*line[-1])])
        lines = [
            [*line, naive.cell(one[1], field)] for line in lines if len(line) < 3
            for one in told.held(*line[-1]) if one[0] == "site" for field in told.world.fields_at(one[1])
        ]
    return found


class Seen(naive_told.Told):
    def leaving(self, f):
        """Tell the sites of a function that leave it."""
        first = self.held("given", f).union(*[self.of(f, local) for local in self.world.functions[f][1]])
        return {one[1] for one in self.reach(first) if one[0] == "site" and one[1][0] == f}

    def stays_by(self, place, listed):
        """Tell whether a set of sites shows that a site stays."""
        f = place[0]
        needed = self.held("given", f).union(*[self.of(f, local) for local in self.world.functions[f][1]])
        for site in listed:
            needed = needed.union(*[self.held(*naive.cell(site, field)) for field in self.world.fields_at(site)])
        return place not in listed and {one[1] for one in needed if one[0] == "site"} <= set(listed)

    def cells_at(self, place):
        return self.cells(place) if place[0] in self.live else set()

    def same_index(self, place, other):
        """Tell whether the indexes of two accesses of elements are alike: True, False, None for who knows."""
        one, two = self.index_at(place), self.index_at(other)
        numbers = [self.num(place[0], one), self.num(other[0], two)]
        if None not in numbers and numbers[0] != numbers[1]:
            return False
        return True if (place[0] == other[0] and one == two) or None not in numbers else None

    def index_at(self, place):
        thing = self.world.things[place]
        return thing[3] if thing[0] == "at" else thing[2]

    def meets(self, place, other):
        things = [self.world.things[place], self.world.things[other]]
        rows = all([thing[0] in ("at", "set") for thing in things])
        if not self.cells_at(place) & self.cells_at(other) or (rows and self.same_index(place, other) is False):
            return "never"
        base, field = self.base_field(things[0])
        other_base, other_field = self.base_field(things[1])
        if place[0] != other[0] or base != other_base:
            return "perhaps"
        if rows:
            return "surely" if self.same_index(place, other) else "perhaps"
        return "surely" if field == other_field else "perhaps"

    def writers(self, place):
        found = []
        for other, thing in self.world.places:
            if other[0] == place[0]:
                if thing[0] in ("put", "set") and self.meets(place, other) != "never":
                    found.append(other)
                if thing[0] in ("call", "ask"):
                    written = set().union(*[self.writes(goal) for goal in self.goals(other, thing)])
                    if written & self.cells_at(place):
                        found.append(other)
        return found

    def block_dominates(self, f, one, other):
        return other not in naive.reached_names(self.world.functions[f], one)

    def frontier(self, f, block):
        blocks = naive.blocks_of(self.world.functions[f])
        return {
            goal for source in naive.reached_names(self.world.functions[f]) if self.block_dominates(f, block, source)
            for goal in naive.goal_names(blocks[source]) if goal == block or not self.block_dominates(f, block, goal)
        }

    def clobber(self, place):
        f, name, index = place
        writers = self.writers(place)
        joins, looked = set(), {writer[1] for writer in writers}
        while looked:
            more = set().union(*[self.frontier(f, block) for block in looked]) - joins
            joins |= more
            looked = more
        reached = naive.reached_names(self.world.functions[f])
        above = [other for other in reached if self.block_dominates(f, other, name)]
        # Of the blocks that dominate one, the nearer ones are dominated by more.
        above = sorted(above, key=lambda one: -len([other for other in above if self.block_dominates(f, other, one)]))
        for block in above:
            before = [writer for writer in writers if writer[1] == block and (block != name or writer[2] < index)]
            if before:
                return ("writer", max(before))
            if block in joins:
                return ("join", block)
        return ("start",)

    def seen(self, place):
        """Go backward over all places, one after another."""
        writers, blocks = self.writers(place), naive.blocks_of(self.world.functions[place[0]])
        before = {}
        for other, _ in self.world.places:
            if other[0] == place[0]:
                before.setdefault(other, [])
                if other[2] > 0:
                    before[other].append((*other[:2], other[2] - 1))
                block = blocks[other[1]]
                if other[2] == len(block[2]):
                    for goal in naive.goal_names(block):
                        before.setdefault((place[0], goal, 0), []).append(other)
        entry = (place[0], self.world.functions[place[0]][2][0][0], 0)
        found, looked, waiting = set(), set(), [place]
        while waiting:
            other = waiting.pop()
            if other == entry:
                found.add(("start",))
            for one in before[other]:
                if one in writers:
                    found.add(("writer", one))
                elif one not in looked:
                    looked.add(one)
                    waiting.append(one)
        return sorted(found)

    def used(self, f):
        return {
            local for _, _, things, end in self.world.functions[f][2] for thing in (*things, end)
            for local in naive.uses_of(thing)
        }

    def fits(self, word, place):
        """Tell whether a step of this word can be done at a place."""
        thing, f = self.world.things[place], place[0]
        if word == "call":
            if thing[0] != "ask" or len(self.of(f, thing[2])) != 1:
                return False
            return len(self.goals(place, thing)) == 1
        if word == "num":
            if thing[0] != "same" or not self.of(f, thing[2]) or not self.of(f, thing[3]):
                return False
            return thing[2] == thing[3] or not self.of(f, thing[2]) & self.of(f, thing[3])
        if word == "load":
            version = self.clobber(place) if thing[0] in ("get", "at") else ("start",)
            if version[0] != "writer" or self.world.things[version[1]][0] not in ("put", "set"):
                return False
            return self.meets(place, version[1]) == "surely"
        if word == "store":
            loads = [other for other, one in self.world.places if one[0] in ("get", "at") and other[0] in self.live]
            loaded = set().union(*[self.cells(other) for other in loads])
            return thing[0] in ("put", "set") and self.is_sure(place) and not loaded & self.cells_at(place)
        if thing[0] in ("put", "set", "show") or thing[0] in ("go", "if", "give") or thing[1] in self.used(f):
            return False
        sure = thing[0] in ("row", "get", "at") and self.is_sure(place)
        return thing[0] in ("num", "none", "fun", "same", "new") or sure

    def steps(self):
        found = [
            (word, place) for place, _ in self.world.places for word in ("call", "num", "load", "store", "unused")
            if self.fits(word, place)
        ]
        named = {}
        for f, _, blocks in self.module[1]:
            named[f] = {thing[2] for block in blocks for thing in block[2] if thing[0] in ("call", "fun")}
        idle = [f for f in named if f not in self.live and not any([f in named[g] for g in named if g != f])]
        return found + [("function", f) for f in idle]


def split_closure(module):
    """Tell the least sets of split facts and of (function, view) in which functions are live."""
    world, facts = naive.World(module), set()
    live = {("main", None)}
    facts |= {(("register", "main", name), None, NUMBER) for name in world.functions["main"][1]}
    while True:
        holding = {}
        for holder, view, thing in facts:
            holding.setdefault((holder, view), set()).add(thing)
        made, lives = set(), set()
        for g, view in live:
            for place, thing in world.places:
                if place[0] == g:
                    some, more = split_at(world, holding, place, thing, view)
                    made |= some
                    lives |= more
        if made <= facts and lives <= live:
            return facts, live
        facts |= made
        live |= lives


def split_at(world, holding, place, thing, view):
    """Tell what the rows of the table make at a place in a view."""
    g, word = place[0], thing[0]

    def local(name):
        return ("register", g, name)

    def held(name):
        return holding.get((local(name), view), set())

    def passed(source, source_view, goal, goal_view):
        return {(goal, goal_view, one) for one in holding.get((source, source_view), set())}

    def sites(name, field):
        return [one[1] for one in held(name) if one[0] == "site" and field in world.fields_at(one[1])]

    if word in ("put", "set"):
        field = thing[2] if word == "put" else None
        cells = [naive.cell(site, field) for site in sites(thing[1], field)]
        return {(cell, None, one) for cell in cells for one in held(thing[3])}, set()
    if word in ("get", "at"):
        field = thing[3] if word == "get" else None
        cells = [naive.cell(site, field) for site in sites(thing[2], field)]
        return set().union(*[passed(cell, None, local(thing[1]), view) for cell in cells]), set()
    if word in ("call", "ask"):
        names = [thing[2]] if word == "call" else [one[1] for one in held(thing[2]) if one[0] == "fun"]
        names = [name for name in names if len(world.functions[name][1]) == len(thing[3])]
        made = set()
        for name in names:
            for arg, parameter in zip(thing[3], world.functions[name][1]):
                made |= passed(local(arg), view, ("register", name, parameter), place)
            made |= passed(("given", name), place, local(thing[1]), view)
        return made, {(name, place) for name in names}
    if word in ("go", "if"):
        made, blocks = set(), naive.blocks_of(world.functions[g])
        for name, args in [thing[1:3]] if word == "go" else [thing[2:4], thing[4:6]]:
            for arg, parameter in zip(args, blocks[name][1]):
                made |= passed(local(arg), view, local(parameter), view)
        return made, set()
    if word == "give":
        return passed(local(thing[1]), view, ("given", g), view), set()
    if word == "show":
        return set(), set()
    if word in ("new", "row"):
        cells = {(naive.cell(place, field), None, NONE) for field in world.fields_at(place)}
        return cells | {(local(thing[1]), view, ("site", place))}, set()
    made = {"none": NONE, "fun": ("fun", thing[-1])}.get(word, NUMBER)
    return {(local(thing[1]), view, made)}, set()
