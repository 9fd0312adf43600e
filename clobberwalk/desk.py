"""A desk, which executes rows of words [45]."""

from clobberwalk.asking import function_named
from clobberwalk.orders import order_of
from clobberwalk.workshop import Workshop

FIRST = "function main\nblock a\nnone x\ngive x"
OK = "ok"
NOTHING = "-"
# How many signs a number in a table has at least.
NUMBER_WIDTH = 2
# Rows that are edits, and rows that ask for names or words, by their first words.
EDITS = ("insert", "replace", "delete", "drop", "remove", "forget", "kind")
LISTS = ("live", "goals", "words")


class Desk:
    """Has a workshop, and answers rows by strings."""

    def __init__(self):
        self._workshop = Workshop.from_text(FIRST)

    @property
    def workshop(self):
        """The present workshop."""
        return self._workshop

    def __call__(self, row):
        return self.say(row)

    def say(self, row):
        """Execute a row and tell its answer; InvalidRow(row) for any value that is none."""
        word, parts = order_of(row)
        if word == "load":
            self._workshop = Workshop.from_text(parts[0])
            return OK
        if word == "try":
            inner, inner_parts = parts
            return self._workshop.explore(lambda workshop: _answer(workshop, inner, inner_parts))
        return _answer(self._workshop, word, parts)


def _answer(workshop, word, parts):
    if word in EDITS:
        workshop.do((word, *parts))
        return OK
    if word in LISTS:
        return _joined(" ", workshop.ask(word, *parts))
    action = ACTIONS[word]
    return action(workshop, *parts)


def _undo(workshop, many=1):
    workshop.undo(many)
    return OK


def _redo(workshop, many=1):
    workshop.redo(many)
    return OK


def _show_text(workshop):
    return workshop.text()


def _run(workshop, inputs):
    result = workshop.ask("run", inputs)
    return " ".join([*_words_of(result.outputs), ":", *_words_of(result.end)])


def _show_held(workshop, f, local):
    return _joined(", ", workshop.ask("holds", f, local))


def _show_given(workshop, f):
    return _joined(", ", workshop.ask("given_by", f))


def _count_changes(workshop):
    return " ".join([str(len(part)) for part in workshop.changes()])


def _show_table(workshop, f):
    names = workshop.ask("reached", f)
    above = [workshop.ask("immediate_dominator", f, name) or NOTHING for name in names]
    sizes = {block[0]: len(block[2]) for block in function_named(workshop.current, f)[2]}
    width = max([len(name) for name in names])
    above_width = max([len(name) for name in above])
    lines = []
    for name, dominator in zip(names, above):
        depth = str(workshop.ask("depth", f, name)).rjust(NUMBER_WIDTH)
        size = str(sizes[name]).rjust(NUMBER_WIDTH)
        lines.append(f"{name.ljust(width)} {dominator.ljust(above_width)} {depth} {size}")
    return "\n".join(lines)


def _joined(between, parts):
    """Join things or names."""
    if len(parts) == 0:
        return NOTHING
    return between.join([" ".join(_words_of(part)) for part in parts])


def _words_of(value):
    """List the words of what a run ended with, of a thing, or of a place."""
    if isinstance(value, tuple):
        return [word for part in value for word in _words_of(part)]
    return ["none" if value is None else str(value)]


ACTIONS = {
    "text": _show_text, "undo": _undo, "redo": _redo, "run": _run, "holds": _show_held, "given": _show_given,
    "changes": _count_changes, "table": _show_table,
}
