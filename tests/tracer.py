"""Runs that note for each call what happened in it, one after another."""

import naive


class Call:
    """A call in a run: its function, the place of its call (None for main's own), its events, what it made."""

    def __init__(self, f, view, args):
        self.f, self.view, self.args = f, view, args
        self.events, self.made = [], []


def reachable(values):
    """List the objects and rows that can be reached from some values."""
    found, waiting = [], list(values)
    while waiting:
        one = waiting.pop()
        if isinstance(one, naive.Made) and one not in found:
            found.append(one)
            waiting.extend(one.cells.values())
    return found


class Tracer(naive.Machine):
    """A machine whose calls have events ("block", name), ("done", place), ("write", cell), also of what they call."""

    def __init__(self, module, limit):
        super().__init__(module, limit)
        self.calls, self.place = [], None
        # What there is to check: (place, cell, events before it), (call, register, value), (call, value given).
        self.accesses, self.holds, self.finished = [], [], []

    def call(self, f, values, depth):
        call = Call(f, self.place, values)
        self.calls.append(call)
        self.watch = lambda word, g, name, value: word == "register" and self.holds.append((self.calls[-1], name, value))
        given = super().call(f, values, depth)
        self.calls.pop()
        self.finished.append((call, given, reachable([given, *values])))
        return given

    def arrive(self, name):
        self.calls[-1].events.append(("block", name))

    def do(self, place, thing, held, put, depth):
        before = self.place
        self.place = place
        super().do(place, thing, held, put, depth)
        self.place = before
        self.calls[-1].events.append(("done", place))

    def cell(self, place, base, name, writes, thing, held, put):
        self.accesses.append((place, (base.number, name), list(self.calls[-1].events)))
        super().cell(place, base, name, writes, thing, held, put)
        if writes:
            for call in self.calls:
                call.events.append(("write", (base.number, name)))

    def new(self, place, kind, cells):
        made = super().new(place, kind, cells)
        self.calls[-1].made.append(made)
        return made
