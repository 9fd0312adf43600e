"""The facts of a module by the places of calls [29]."""

from clobberwalk.callgraph import CallGraph
from clobberwalk.net import Net
from clobberwalk.spread import least_state
from clobberwalk.told import Told


class SplitNet(Net):
    """A net in which a function has a frame of its own for each view in which it can be live."""

    def __init__(self, module):
        super().__init__(module)
        # Without their views split facts are facts, so a call has no other goals than by these.
        self.goals = CallGraph(Told(module)).goals
        # The frames by function and view; None is the view of main's own run alone.
        self.viewed = {("main", None): self.frames["main"]}
        for place, names in self.goals.items():
            alive = len(self.holders)
            self.holders.append(None)
            for name in names:
                self.viewed[(name, place)] = self.new_frame(name, alive)

    def all_frames(self):
        """List the frames of all functions in all views."""
        return list(self.viewed.values())

    def frame_at(self, place, name):
        """Find the frame of a function for the view that is the place of a call."""
        return self.viewed[(name, place)]

    def askable(self, place, _):
        """List the functions that the ask at a place could call, ascending."""
        return self.goals[place]


class Split(Told):
    """The split facts of a module; what is asked without a view is told for all views together."""

    def __init__(self, module):
        self.net = SplitNet(module)
        self.masks = least_state(self.net, None)

    def views_of(self, f):
        """List the views in which a function is live: None first, then ascending."""
        own = self.net.fun_bit(f)
        found = [
            view for (name, view), frame in self.net.viewed.items()
            if name == f and self.masks[frame.alive] & own > 0
        ]
        places = sorted([view for view in found if view is not None])
        return [None, *places] if None in found else places

    def is_live(self, f):
        """Tell whether a function is live in a view."""
        return len(self.views_of(f)) > 0

    def held(self, f, local):
        """Tell the mask of the things that a register holds in any view."""
        mask = 0
        for view in self.views_of(f):
            mask |= self.masks[self.net.viewed[(f, view)].homes[local]]
        return mask
