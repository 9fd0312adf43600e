"""Edits: which values are some, and how they are done [35, 36]."""

from clobberwalk.errors import InvalidEdit, InvalidStep, UnknownName, UnknownPlace, WrongPlace
from clobberwalk.forms import (
    ENDS, has_block_form, has_function_form, has_thing_form, is_kind, wrong_block, wrong_index,
)
from clobberwalk.stepping import Stepping


def check_edits(edits):
    """Raise InvalidEdit for the first value that is no edit, or a step that is not alone."""
    for at, edit in enumerate(edits):
        if not is_edit(edit) or (edit[0] == "step" and len(edits) > 1):
            raise InvalidEdit(at)


def is_edit(value):
    """Tell whether any value is an edit."""
    if not isinstance(value, tuple) or len(value) == 0 or not isinstance(value[0], str):
        return False
    word = value[0]
    if word not in SIZES or len(value) != SIZES[word]:
        return False
    if word not in FORMS:
        return True
    has_form = FORMS[word]
    # What has a form of its own stands last; all other parts may be any values.
    return has_form(value[-1])


def do_edit(draft, module, edit):
    """Do an edit on a draft; module is what the draft was at first."""
    action = ACTIONS[edit[0]]
    action(draft, module, edit)


def _has_whole_thing_form(value):
    return has_thing_form(value, {})


def _has_whole_kind_form(value):
    return is_kind(value)


def _has_whole_block_form(value):
    return has_block_form(value) and wrong_index(value, {}) is None


def _has_whole_function_form(value):
    if not has_function_form(value) or wrong_block(value[2]) is not None:
        return False
    return all([_has_whole_block_form(block) for block in value[2]])


def _check_function(draft, f):
    if not draft.has_function(f):
        raise UnknownName(f)


def _thing_at(draft, place):
    thing = draft.thing_at(place)
    if thing is None:
        raise UnknownPlace(place)
    return thing


def _is_end(thing):
    return thing[0] in ENDS


def _do_insert(draft, _, edit):
    place, thing = edit[1], edit[2]
    _thing_at(draft, place)
    if _is_end(thing):
        raise WrongPlace(place)
    draft.put_in(place, thing)


def _do_delete(draft, _, edit):
    place = edit[1]
    if _is_end(_thing_at(draft, place)):
        raise WrongPlace(place)
    draft.take_out(place)


def _do_replace(draft, _, edit):
    place, thing = edit[1], edit[2]
    if _is_end(_thing_at(draft, place)) != _is_end(thing):
        raise WrongPlace(place)
    draft.exchange(place, thing)


def _do_block(draft, _, edit):
    _check_function(draft, edit[1])
    draft.put_block(edit[1], edit[2])


def _do_drop(draft, _, edit):
    f, name = edit[1], edit[2]
    _check_function(draft, f)
    if not draft.has_block(f, name):
        raise UnknownName(name)
    draft.take_block(f, name)


def _do_function(draft, _, edit):
    draft.put_function(edit[1])


def _do_kind(draft, _, edit):
    draft.put_kind(edit[1])


def _do_remove(draft, _, edit):
    _check_function(draft, edit[1])
    draft.take_function(edit[1])


def _do_forget(draft, _, edit):
    if not draft.has_kind(edit[1]):
        raise UnknownName(edit[1])
    draft.take_kind(edit[1])


def _do_step(draft, module, edit):
    stepping = Stepping(module)
    if not stepping.is_step(edit[1]):
        raise InvalidStep(edit[1])
    stepping.take(edit[1], draft)


# How many parts each edit has, its word included.
SIZES = {
    "insert": 3, "delete": 2, "replace": 3, "block": 3, "drop": 3, "function": 2, "kind": 2, "remove": 2, "forget": 2,
    "step": 2,
}
FORMS = {
    "insert": _has_whole_thing_form, "replace": _has_whole_thing_form, "block": _has_whole_block_form,
    "function": _has_whole_function_form, "kind": _has_whole_kind_form,
}
ACTIONS = {
    "insert": _do_insert, "delete": _do_delete, "replace": _do_replace, "block": _do_block, "drop": _do_drop,
    "function": _do_function, "kind": _do_kind, "remove": _do_remove, "forget": _do_forget, "step": _do_step,
}
