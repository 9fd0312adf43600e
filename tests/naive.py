"""Second answers, made from the words of the document as plainly as possible."""

NUMBER, NONE = ("number",), ("none",)


def blocks_of(function):
    return {block[0]: block for block in function[2]}


def goal_names(block):
    end = block[3]
    return {"go": [end[1]], "if": [end[2], end[4]] if end[0] == "if" else [], "give": []}[end[0]]


def reached_names(function, barred=None):
    """Tell the names of the blocks to which ways lead from the entry that do not pass the barred one."""
    blocks, found, waiting = blocks_of(function), set(), [function[2][0][0]]
    while waiting:
        name = waiting.pop()
        if name != barred and name not in found:
            found.add(name)
            waiting.extend(goal_names(blocks[name]))
    return found


def places_of(module, reached_alone=True):
    """List (place, instruction or end), of reached blocks alone."""
    found = []
    for function in module[1]:
        names = reached_names(function)
        for block in function[2]:
            if block[0] in names or not reached_alone:
                for at, thing in enumerate((*block[2], block[3])):
                    found.append(((function[0], block[0], at), thing))
    return found


def registers_of(function):
    found = list(function[1])
    for _, parameters, things, _ in function[2]:
        found.extend(parameters)
        found.extend([thing[1] for thing in things if thing[0] not in ("put", "set", "show")])
    return found


def uses_of(thing):
    word = thing[0]
    return {
        "num": [], "none": [], "fun": [], "new": [], "not": thing[2:3], "row": thing[2:3], "get": thing[2:3],
        "put": (thing[1], thing[-1]), "set": thing[1:], "call": thing[-1], "show": thing[1:], "give": thing[1:],
        "ask": (thing[2], *thing[-1]) if word == "ask" else (), "go": thing[-1],
        "if": (thing[1], *thing[3], *thing[5]) if word == "if" else (),
    }.get(word, thing[2:])


class World:
    """A module, with what is asked of it again and again."""

    def __init__(self, module):
        self.module = module
        self.kinds = dict(module[0])
        self.functions = {function[0]: function for function in module[1]}
        self.places = places_of(module)
        self.things = dict(self.places)

    def fields_at(self, place):
        """List the names of the cells of a site; None is that of a row's elements."""
        thing = self.things[place]
        return [None] if thing[0] == "row" else list(self.kinds[thing[2]])

    def holders(self):
        """List all holders of the module."""
        found = []
        for name, function in self.functions.items():
            found.append(("given", name))
            found.extend([("register", name, local) for local in registers_of(function)])
        for place, thing in self.places:
            if thing[0] in ("new", "row"):
                found.extend([cell(place, field) for field in self.fields_at(place)])
        return found

    def all_things(self):
        """List all things of the module."""
        sites = [("site", place) for place, thing in self.places if thing[0] in ("new", "row")]
        return [NUMBER, NONE, *sites, *[("fun", name) for name in self.functions]]


def cell(site, field):
    return ("element", site) if field is None else ("field", site, field)


def inferences(world, facts, live):
    """List (rule, place, conclusion) of all rules whose needs are among some facts and live functions."""
    main = world.functions["main"]
    found = [("start", None, ("live", "main"))]
    found.extend([("start", None, (("register", "main", name), NUMBER)) for name in main[1]])
    holding = {}
    for holder, thing in facts:
        holding.setdefault(holder, []).append(thing)
    for place, thing in world.places:
        if place[0] in live:
            found.extend([(rule, place, made) for rule, made in made_at(world, holding, place, thing)])
    return found


def made_at(world, holding, place, thing):
    """List (rule, conclusion) of one place of a live function."""
    f, word = place[0], thing[0]

    def local(name):
        return ("register", f, name)

    def held(name):
        return holding.get(local(name), [])

    def flow(rule, source, goal):
        return [(rule, (goal, one)) for one in holding.get(source, [])]

    def enter(rule, name):
        made = [(rule, ("live", name))]
        for arg, parameter in zip(thing[3], world.functions[name][1]):
            made.extend(flow(rule, local(arg), ("register", name, parameter)))
        return made + flow(rule, ("given", name), local(thing[1]))

    if word in ("num", "add", "sub", "mul", "less", "not", "same"):
        return [("make", (local(thing[1]), NUMBER))]
    if word in ("none", "fun"):
        return [("make", (local(thing[1]), NONE if word == "none" else ("fun", thing[2])))]
    if word in ("new", "row"):
        cells = [("make", (cell(place, field), NONE)) for field in world.fields_at(place)]
        return [("make", (local(thing[1]), ("site", place))), *cells]
    if word in ("go", "if"):
        made, blocks = [], blocks_of(world.functions[f])
        for name, args in [thing[1:3]] if word == "go" else [thing[2:4], thing[4:6]]:
            for arg, parameter in zip(args, blocks[name][1]):
                made.extend(flow("pass", local(arg), local(parameter)))
        return made
    if word in ("put", "set"):
        return [
            one for kind, site in [held_one for held_one in held(thing[1]) if held_one[0] == "site"]
            for one in flow("put", local(thing[3]), cell(site, thing[2] if word == "put" else None))
            if (thing[2] if word == "put" else None) in world.fields_at(site)
        ]
    if word in ("get", "at"):
        field = thing[3] if word == "get" else None
        return [
            one for kind, site in [held_one for held_one in held(thing[2]) if held_one[0] == "site"]
            for one in flow("get", cell(site, field), local(thing[1])) if field in world.fields_at(site)
        ]
    if word == "call":
        return enter("call", thing[2])
    if word == "ask":
        names = [one[1] for one in held(thing[2]) if one[0] == "fun"]
        fitting = [name for name in names if len(world.functions[name][1]) == len(thing[3])]
        return [one for name in fitting for one in enter("ask", name)]
    return flow("give", local(thing[1]), ("given", f)) if word == "give" else []


def closure(module):
    """Tell the least sets of facts and of live functions."""
    world, facts, live = World(module), set(), set()
    while True:
        made = {conclusion for _, _, conclusion in inferences(world, facts, live)}
        lives = {name for word, name in made if word == "live"}
        told = {conclusion for conclusion in made if conclusion[0] != "live"}
        if lives <= live and told <= facts:
            return facts, live
        live |= lives
        facts |= told


def accepts(module, fact, value):
    """Check a derivation of plain lists and tuples."""
    world, made = World(module), []
    for rule, place, conclusion, numbers in value:
        assert all([type(at) is int and 0 <= at < len(made) for at in numbers])
        known = [made[at] for at in numbers]
        live = {name for word, name in known if word == "live"}
        told = {one for one in known if one[0] != "live"}
        if (rule, place, conclusion) not in inferences(world, told, live):
            return False
        made.append(conclusion)
    return bool(made) and made[-1] == fact


class Fault(Exception):
    pass


class Limit(Exception):
    pass


class Made:
    """An object or a row; the one of Python's own identity."""

    def __init__(self, number, place, kind, cells):
        self.number, self.place, self.kind, self.cells = number, place, kind, cells


class Machine:
    """Runs a module by calls of its own; watch sees each value that a register gets."""

    def __init__(self, module, limit, watch=None):
        self.world = World(module)
        self.limit, self.watch = limit, watch or (lambda *_: None)
        self.outputs, self.steps, self.made, self.touched = [], 0, [], []

    def run(self, inputs):
        try:
            value = self.call("main", inputs, 0)
        except Fault as fault:
            return ("fault", *fault.args)
        except Limit:
            return ("limit",)
        if isinstance(value, Made):
            return ("value", ("row", len(value.cells)) if value.kind is None else ("object", value.kind))
        return ("value", value)

    def call(self, f, values, depth):
        _, parameters, blocks = self.world.functions[f]
        held = {}

        def put(name, value):
            held[name] = value
            self.watch("register", f, name, value)

        for name, value in zip(parameters, values):
            put(name, value)
        block = blocks[0]
        while True:
            self.arrive(block[0])
            for at, thing in enumerate(block[2]):
                self.due()
                self.do((f, block[0], at), thing, held, put, depth)
                self.watch("place", (f, block[0], at), thing, held)
            self.due()
            place, end = (f, block[0], len(block[2])), block[3]
            if end[0] == "give":
                self.watch("given", f, None, held[end[1]])
                return held[end[1]]
            name, args = end[1:3] if end[0] == "go" else self.arm(place, end, held)
            values = [held[arg] for arg in args]
            block = blocks_of(self.world.functions[f])[name]
            for parameter, value in zip(block[1], values):
                put(parameter, value)

    def arrive(self, name):
        """Hear of each block that the present call comes to."""

    def due(self):
        if self.steps == self.limit:
            raise Limit()
        self.steps += 1

    def arm(self, place, end, held):
        self.need("number", place, type(held[end[1]]) is int)
        return end[2:4] if held[end[1]] else end[4:6]

    def need(self, word, place, holds):
        if not holds:
            raise Fault(word, place)

    def do(self, place, thing, held, put, depth):
        word = thing[0]
        if word in ("put", "get"):
            base, field = (held[thing[1]], thing[2]) if word == "put" else (held[thing[2]], thing[3])
            self.need("object", place, isinstance(base, Made) and base.kind is not None and field in base.cells)
            self.cell(place, base, field, word == "put", thing, held, put)
        elif word in ("set", "at"):
            base, index = [held[name] for name in (thing[1:3] if word == "set" else thing[2:4])]
            self.need("number", place, type(index) is int)
            self.need("row", place, isinstance(base, Made) and base.kind is None)
            self.need("index", place, index in base.cells)
            self.cell(place, base, index, word == "set", thing, held, put)
        elif word in ("call", "ask"):
            f = thing[2]
            if word == "ask":
                value = held[f]
                self.need("function", place, isinstance(value, tuple))
                f = value[1]
                self.need("function", place, len(self.world.functions[f][1]) == len(thing[3]))
            self.need("deep", place, depth < 40)
            put(thing[1], self.call(f, [held[arg] for arg in thing[3]], depth + 1))
        elif word == "show":
            self.need("number", place, type(held[thing[1]]) is int)
            self.outputs.append(held[thing[1]])
        else:
            put(thing[1], self.value(place, thing, held))

    def cell(self, place, base, name, writes, thing, held, put):
        self.touched.append((place, (base.number, name), self.steps - 1))
        if writes:
            base.cells[name] = held[thing[3]]
        else:
            put(thing[1], base.cells[name])

    def value(self, place, thing, held):
        word = thing[0]
        if word in ("num", "none", "fun"):
            return {"num": thing[-1], "none": None, "fun": ("fun", thing[-1])}[word]
        if word == "new":
            return self.new(place, thing[2], {field: None for field in self.world.kinds[thing[2]]})
        values = [held[name] for name in thing[2:]]
        if word == "same":
            one, other = values
            return int(one is other or (type(one) is type(other) and not isinstance(one, Made) and one == other))
        self.need("number", place, all([type(value) is int for value in values]))
        if word == "row":
            self.need("length", place, 0 <= values[0] <= 60)
            return self.new(place, None, {at: None for at in range(values[0])})
        if word == "not":
            return int(values[0] == 0)
        one, other = values
        if word == "less":
            return int(one < other)
        result = {"add": one + other, "sub": one - other, "mul": one * other}[word]
        self.need("great", place, -10 ** 40 <= result <= 10 ** 40)
        return result

    def new(self, place, kind, cells):
        self.made.append(place)
        return Made(len(self.made) - 1, place, kind, cells)


def thing_of(value):
    """Tell which thing a value of the machine is."""
    if value is None:
        return NONE
    if isinstance(value, Made):
        return ("site", value.place)
    return NUMBER if type(value) is int else value
