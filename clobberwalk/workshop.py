"""Workshops: modules that are changed, with undo, redo and trials [35 to 40].

Each class defines all that the interface lists for it, also what it does as its base does.
"""

from clobberwalk.asked import function_asked
from clobberwalk.asking import check_module
from clobberwalk.editions import changes_between, edited, history_of
from clobberwalk.errors import Broken, InvalidInputs, InvalidNumber
from clobberwalk.forms import is_integer
from clobberwalk.machine import is_inputs, run
from clobberwalk.texts import read_module, show_module


def check_number(value, least, most):
    """Raise InvalidNumber for what is no integer from least to most."""
    if not is_integer(value) or not least <= value <= most:
        raise InvalidNumber(value)


class Workshop:
    """Keeps a module and the changes that made it."""

    def __init__(self, module):
        check_module(module)
        # All that a trial gives back; each change, undo and redo puts another history in its place.
        self._past = history_of(module)
        self._trials = 0

    @classmethod
    def from_text(cls, text):
        """Make a workshop of the module with a text."""
        return cls(read_module(text))

    @property
    def current(self):
        """The present module."""
        return self._past.present.module

    @property
    def history(self):
        """The changes that are in effect, the first one first."""
        return [edition.change for edition in self._past.editions[1:self._past.at + 1]]

    @property
    def undone(self):
        """How many changes can be redone."""
        return len(self._past.editions) - 1 - self._past.at

    @property
    def depth(self):
        """How many trials are in progress."""
        return self._trials

    def __len__(self):
        return len(self.history)

    def __eq__(self, other):
        return isinstance(other, Workshop) and self.current == other.current

    def text(self):
        """Make the text of the present module."""
        return show_module(self.current)

    def do(self, *edits):
        """Do some edits together, as one change."""
        past = self._past
        edition = edited(past.present, edits, past.at + 1)
        self.check_change(edition.module)
        self._past = past.with_next(edition)

    def check_change(self, module):
        """Raise an error for a module to which no change may lead; here there is none."""

    def undo(self, many=1):
        """Undo the last changes."""
        check_number(many, 1, self._past.at)
        self._past = self._past.moved_to(self._past.at - many)

    def redo(self, many=1):
        """Redo the changes that were undone last."""
        check_number(many, 1, self.undone)
        self._past = self._past.moved_to(self._past.at + many)

    def module_after(self, number):
        """Tell the module after so many changes of the history."""
        check_number(number, 0, self._past.at)
        return self._past.editions[number].module

    def all_modules(self):
        """List the modules after no change, after the first one, and so on."""
        return [edition.module for edition in self._past.editions[:self._past.at + 1]]

    def modules(self):
        """Tell these modules one after another, as the history is when the iteration begins."""
        yield from self.all_modules()

    def attempt(self, action):
        """Do an action; if an exception leaves it, all is as it was before."""
        back = self._past
        self._trials += 1
        try:
            result = action(self)
            back = None
        finally:
            self._trials -= 1
            if back is not None:
                self._past = back
        return result

    def explore(self, action):
        """Do an action, and let all be as it was before."""
        back = self._past
        self._trials += 1
        try:
            return action(self)
        finally:
            self._trials -= 1
            self._past = back

    def changes(self):
        """List what the last change, undo or redo made otherwise: facts gone and come, functions dead and born."""
        if self._past.before is None:
            return ([], [], [], [])
        return changes_between(self._past.before, self._past.present)

    def ask(self, word, *rest, **more):
        """Tell what the function with this name returns for the present module."""
        function = function_asked(word)
        module = self.current
        return function(module, *rest, **more)


class GuardedWorkshop(Workshop):
    """A workshop that does no change after which a run with some inputs has another behaviour."""

    def __init__(self, module, *inputs):
        super().__init__(module)
        for value in inputs:
            if not is_inputs(module, value):
                raise InvalidInputs(value)
        self._inputs = tuple([tuple(value) for value in inputs])

    @classmethod
    def from_text(cls, text):
        return cls(read_module(text))

    @property
    def current(self):
        return self._past.present.module

    @property
    def history(self):
        return [edition.change for edition in self._past.editions[1:self._past.at + 1]]

    @property
    def undone(self):
        return len(self._past.editions) - 1 - self._past.at

    @property
    def depth(self):
        return self._trials

    @property
    def inputs(self):
        """The lists of inputs with which no change may alter the behaviour, as tuples."""
        return self._inputs

    def __len__(self):
        return len(self.history)

    def __eq__(self, other):
        return isinstance(other, Workshop) and self.current == other.current

    def text(self):
        return super().text()

    def do(self, *edits):
        super().do(*edits)

    def undo(self, many=1):
        super().undo(many)

    def redo(self, many=1):
        super().redo(many)

    def module_after(self, number):
        return super().module_after(number)

    def modules(self):
        yield from self.all_modules()

    def attempt(self, action):
        return super().attempt(action)

    def explore(self, action):
        return super().explore(action)

    def changes(self):
        return super().changes()

    def ask(self, word, *rest, **more):
        return super().ask(word, *rest, **more)

    def check_change(self, module):
        """Raise Broken for the first inputs with which a module behaves otherwise than the first one."""
        first = self._past.editions[0].module
        for at, inputs in enumerate(self._inputs):
            if not is_inputs(module, inputs) or run(module, inputs).behaviour != run(first, inputs).behaviour:
                raise Broken(at)


class CountingWorkshop(Workshop):
    """A workshop that counts what was done, also in trials."""

    def __init__(self, module):
        super().__init__(module)
        self._counts = {"do": 0, "redo": 0, "undo": 0}

    @classmethod
    def from_text(cls, text):
        return cls(read_module(text))

    @property
    def current(self):
        return self._past.present.module

    @property
    def history(self):
        return [edition.change for edition in self._past.editions[1:self._past.at + 1]]

    @property
    def undone(self):
        return len(self._past.editions) - 1 - self._past.at

    @property
    def depth(self):
        return self._trials

    @property
    def counts(self):
        """How many changes were done, redone and undone, without those that are 0."""
        return {word: many for word, many in self._counts.items() if many > 0}

    def __len__(self):
        return len(self.history)

    def __eq__(self, other):
        return isinstance(other, Workshop) and self.current == other.current

    def text(self):
        return super().text()

    def do(self, *edits):
        """Do some edits together, as one change, and count it."""
        super().do(*edits)
        self._counts["do"] += 1

    def undo(self, many=1):
        """Undo the last changes, and count them."""
        super().undo(many)
        self._counts["undo"] += many

    def redo(self, many=1):
        """Redo the changes that were undone last, and count them."""
        super().redo(many)
        self._counts["redo"] += many

    def module_after(self, number):
        return super().module_after(number)

    def modules(self):
        yield from self.all_modules()

    def attempt(self, action):
        return super().attempt(action)

    def explore(self, action):
        return super().explore(action)

    def changes(self):
        return super().changes()

    def ask(self, word, *rest, **more):
        return super().ask(word, *rest, **more)


class GuardedCountingWorkshop(GuardedWorkshop, CountingWorkshop):
    """A workshop that does both."""

    def __init__(self, module, *inputs):
        super().__init__(module, *inputs)

    @classmethod
    def from_text(cls, text):
        return cls(read_module(text))

    @property
    def current(self):
        return self._past.present.module

    @property
    def history(self):
        return [edition.change for edition in self._past.editions[1:self._past.at + 1]]

    @property
    def undone(self):
        return len(self._past.editions) - 1 - self._past.at

    @property
    def depth(self):
        return self._trials

    @property
    def inputs(self):
        return self._inputs

    @property
    def counts(self):
        return {word: many for word, many in self._counts.items() if many > 0}

    def __len__(self):
        return len(self.history)

    def __eq__(self, other):
        return isinstance(other, Workshop) and self.current == other.current

    def text(self):
        return super().text()

    def do(self, *edits):
        super().do(*edits)

    def undo(self, many=1):
        super().undo(many)

    def redo(self, many=1):
        super().redo(many)

    def module_after(self, number):
        return super().module_after(number)

    def modules(self):
        yield from self.all_modules()

    def attempt(self, action):
        return super().attempt(action)

    def explore(self, action):
        return super().explore(action)

    def changes(self):
        return super().changes()

    def ask(self, word, *rest, **more):
        return super().ask(word, *rest, **more)
