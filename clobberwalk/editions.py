"""The editions of a module that changes, and what a change makes otherwise [36, 37, 39]."""

from clobberwalk.draft import Draft
from clobberwalk.edits import check_edits, do_edit
from clobberwalk.errors import InvalidModule
from clobberwalk.facts import facts, live
from clobberwalk.modules import module_error


class Edition:
    """A module, the change that made it, and for each new or row of it the change that it came with.

    The births are tuples (number of the change, place at that time), by the places in this module: one birth in two
    editions of a history is one new or row.
    """

    def __init__(self, module, births, change):
        self.module = module
        self.births = births
        self.change = change


class History:
    """Editions of a module, which one is present, and which one was before; it does not change itself."""

    def __init__(self, editions, at, before):
        self.editions = editions
        self.at = at
        self.before = before
        self.present = editions[at]

    def moved_to(self, at):
        """Make the history in which another edition is present."""
        return History(self.editions, at, self.present)

    def with_next(self, edition):
        """Make the history in which an edition follows on the present one, and none behind it."""
        return History([*self.editions[:self.at + 1], edition], self.at + 1, self.present)


def history_of(module):
    """Begin the history of a module."""
    first = Edition(module, Draft(module, {}).all_births(0), ())
    return History([first], 0, None)


def edited(edition, edits, number):
    """Make the edition that a change with this number makes of an edition."""
    check_edits(edits)
    draft = Draft(edition.module, edition.births)
    for edit in edits:
        do_edit(draft, edition.module, edit)
    module = draft.as_module()
    reason = module_error(module)
    if reason is not None:
        raise InvalidModule(reason)
    return Edition(module, draft.all_births(number), edits)


def changes_between(before, present):
    """List the facts that are gone and that came, and the functions that are dead and that were born."""
    places = {birth: place for place, birth in present.births.items()}
    moved = {place: places.get(birth) for place, birth in before.births.items()}
    old_facts = [(fact, _moved_fact(fact, moved)) for fact in facts(before.module)]
    new_facts = facts(present.module)
    told_now = {fact: True for fact in new_facts}
    told_before = {fact: True for _, fact in old_facts if fact is not None}
    old_live, new_live = live(before.module), live(present.module)
    return (
        [old for old, fact in old_facts if fact not in told_now],
        [fact for fact in new_facts if fact not in told_before],
        [name for name in old_live if name not in new_live],
        [name for name in new_live if name not in old_live],
    )


def _moved_fact(fact, moved):
    """Name a fact by the places to which its sites moved; None if one of them went."""
    holder, thing = _moved_part(fact[0], moved), _moved_part(fact[1], moved)
    return None if holder is None or thing is None else (holder, thing)


def _moved_part(part, moved):
    if part[0] not in ("field", "element", "site"):
        return part
    place = moved[part[1]]
    return None if place is None else (part[0], place, *part[2:])
