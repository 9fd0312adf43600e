"""Modules that are drawn by a source of random numbers, for comparisons."""

KINDS = (("box", ("key", "left")), ("pair", ("left", "right")), ("unit", ()))
FIELDS = ("key", "left", "right")

# How often each word comes, and which sorts its used registers should have.
WORDS = (
    ("num", 4), ("none", 1), ("fun", 3), ("add", 2), ("sub", 1), ("mul", 1), ("less", 1), ("not", 1), ("same", 2),
    ("new", 4), ("row", 2), ("get", 4), ("put", 4), ("at", 3), ("set", 3), ("call", 3), ("ask", 3), ("show", 2),
)
DECK = [word for word, many in WORDS for _ in range(many)]
NEEDS = {
    "get": "box", "put": "box", "at": "row", "set": "row", "ask": "fun", "add": "number", "sub": "number", "mul": "number",
    "less": "number", "not": "number", "row": "number", "show": "number",
}
MAKERS = {"box": "new", "row": "row", "fun": "fun", "number": "num"}
SORTS = ("number", "box", "box", "row", "fun")
COMMON = (0, 0, 1, 1, 2, 3, 9, 9, -1)
NUMBERS = (*COMMON, 60, 61, 10 ** 40, -10 ** 20)


def labels(first, count):
    """List so many names that begin with a letter."""
    signs = "abcdefghijklmnopqrstuvwxyz"
    return [first + one + other for one in signs for other in signs][:count]


def draw_module(source, most_functions=4, most_blocks=5, most_things=5, gives=None):
    """Make a module of functions of some blocks of some instructions each, that often give what is of a sort."""
    others = sorted(source.sample(("a", "f", "g", "h", "n", "z", "zz"), source.randint(0, most_functions - 1)))
    names = sorted([*others, "main"])
    # The sorts of what the parameters of each function should hold; those of main hold integers.
    rooms = {name: [source.choice(SORTS) for _ in range(source.randint(0, 2))] for name in names}
    rooms["main"] = ["number"] * len(rooms["main"])
    while True:
        functions = tuple([
            Drawer(source, name, rooms, gives).function(source.randint(1, most_blocks), most_things) for name in names
        ])
        if sum([len(block[2]) + 1 for function in functions for block in function[2]]) <= 120:
            return (KINDS, functions)


def draw_goals(source, count):
    """List the goals of each block: none, one or two indexes, but never the entry's."""
    goals = []
    for at in range(count):
        many = source.choice((0, 1, 1, 2, 2)) if count > 1 else 0
        later = list(range(at + 1, count)) or list(range(1, count))
        anywhere = list(range(1, count))
        goals.append([source.choice(later if source.random() < 0.6 else anywhere) for _ in range(many)])
    return goals


def ways(goals, barred):
    """Tell the blocks to which ways lead from the entry that do not pass the barred one."""
    found, waiting = set(), [0]
    while waiting:
        at = waiting.pop()
        if at != barred and at not in found:
            found.add(at)
            waiting.extend(goals[at])
    return found


class Drawer:
    """Draws one function; each register has a sort that it will often have."""

    def __init__(self, source, name, rooms, gives=None):
        self.source = source
        self.name = name
        self.rooms = rooms
        self.gives = gives
        self.fresh = labels(name[0], 400)
        self.sorts = {}

    def local(self, sort):
        """Take a new register."""
        name = self.fresh.pop(0)
        self.sorts[name] = sort
        return name

    def pick(self, ready, sort=None):
        """Choose a register that is ready, often one of the sort."""
        fitting = [name for name in ready if self.sorts[name] == sort]
        if fitting and self.source.random() < 0.9:
            return self.source.choice(fitting[-4:])
        return self.source.choice(ready)

    def function(self, count, most_things):
        """Draw the function, with so many blocks."""
        source = self.source
        parameters = tuple([self.local(sort) for sort in self.rooms[self.name]])
        goals = draw_goals(source, count)
        reached = ways(goals, None)
        above = {at: [b for b in range(count) if at not in ways(goals, b)] for at in reached}
        names = labels("b", count)
        source.shuffle(names)
        sorts = ("number", "number", "box", "row", "any")
        rooms = [[]] + [[self.local(source.choice(sorts)) for _ in range(source.choice((0, 0, 1, 2)))] for _ in goals[1:]]
        filled, own = {}, {}
        # The blocks that dominate a block are fewer than those that dominate what it dominates.
        for at in sorted(range(count), key=lambda b: len(above.get(b, goals))):
            ready = list(parameters) + [name for b in above.get(at, own) for name in own.get(b, ())] + rooms[at]
            things = self.things(ready, source.randint(0, most_things), at == 0)
            own[at] = rooms[at] + [thing[1] for thing in things if thing[0] not in ("put", "set", "show")]
            filled[at] = (names[at], tuple(rooms[at]), tuple(things), self.end(ready, goals[at], names, rooms))
        return (self.name, parameters, tuple([filled[at] for at in range(count)]))

    def things(self, ready, count, is_entry):
        """Draw instructions, and make what they define ready."""
        found = []
        words = [self.word() for _ in range(count)]
        if is_entry or not ready:
            words.insert(0, self.source.choice(("num", "new", "fun")))
        if is_entry and self.later() and self.source.random() < 0.6:
            words[1:1] = ["new", "row" if self.source.random() < 0.3 else "fun", self.source.choice(("call", "ask"))]
        for word in words:
            thing = self.thing(ready, word)
            found.append(thing)
            if thing[0] not in ("put", "set", "show"):
                ready.append(thing[1])
        return found

    def word(self):
        """Choose a word; seldom a call where all functions that are left would be in rings."""
        word = self.source.choice(DECK)
        if word in ("call", "ask") and not self.later() and self.source.random() < 0.8:
            return self.source.choice(("get", "put", "at", "set", "same"))
        return word

    def thing(self, ready, word):
        """Draw an instruction with this word, or often one that makes what the word needs."""
        source = self.source
        while word in NEEDS and NEEDS[word] not in [self.sorts[name] for name in ready] and source.random() < 0.9:
            word = MAKERS[NEEDS[word]]
        if word == "num":
            return (word, self.local("number"), source.choice(COMMON if source.random() < 0.8 else NUMBERS))
        if word == "none":
            return (word, self.local("any"))
        if word == "fun":
            return (word, self.local("fun"), self.callee())
        if word == "same":
            return (word, self.local("number"), source.choice(ready), source.choice(ready))
        if word in ("add", "sub", "mul", "less"):
            return (word, self.local("number"), self.pick(ready, "number"), self.pick(ready, "number"))
        if word == "not":
            return (word, self.local("number"), self.pick(ready, "number"))
        if word == "new":
            kind = source.choice(KINDS)[0]
            return (word, self.local("box" if kind != "unit" else "any"), kind)
        if word == "row":
            return (word, self.local("row"), self.pick(ready, "number"))
        if word == "show":
            return (word, self.pick(ready, "number"))
        return self.access(ready, word) if word in ("get", "put", "at", "set") else self.jump(ready, word)

    def access(self, ready, word):
        """Draw a load or a store."""
        field = "left" if self.source.random() < 0.8 else self.source.choice(FIELDS)
        if word == "get":
            return (word, self.local(self.source.choice(("any", "any", "box", "number"))), self.pick(ready, "box"), field)
        if word == "put":
            return (word, self.pick(ready, "box"), field, self.source.choice(ready))
        index = self.pick(ready, "number")
        if word == "at":
            return (word, self.local(self.source.choice(("any", "row", "fun"))), self.pick(ready, "row"), index)
        return (word, self.pick(ready, "row"), index, self.source.choice(ready))

    def later(self):
        """List the functions behind this one: so not all calls are in rings."""
        names = [name for name in self.rooms if name != "main"]
        return names if self.name == "main" else names[names.index(self.name) + 1:]

    def callee(self):
        """Choose a function."""
        later = self.later()
        return self.source.choice(later if later and self.source.random() < 0.85 else list(self.rooms))

    def jump(self, ready, word):
        """Draw a call or an ask."""
        callee = self.callee()
        sorts = self.rooms[callee]
        if word == "ask":
            base = self.pick(ready, "fun")
            sorts = sorts if self.source.random() < 0.9 else ["number"] * self.source.randint(0, 6)
        args = tuple([self.pick(ready, sort) for sort in sorts])
        sort = self.source.choice(("any", "any", "number", "box"))
        return (word, self.local(sort), callee if word == "call" else base, args)

    def end(self, ready, goals, names, rooms):
        """Draw the end that leads to these blocks."""
        links = [(names[b], tuple([self.pick(ready, self.sorts[name]) for name in rooms[b]])) for b in goals]
        if not links:
            return ("give", self.pick(ready, self.gives) if self.gives else self.source.choice(ready))
        if len(links) == 1:
            return ("go", *links[0])
        return ("if", self.pick(ready, "number"), *links[0], *links[1])
