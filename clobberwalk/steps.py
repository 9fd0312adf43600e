"""Steps that keep the behaviour of a module, and rows of them [32, 33]."""

from clobberwalk.asking import check_module
from clobberwalk.draft import Draft
from clobberwalk.errors import InvalidStep
from clobberwalk.modules import module_error
from clobberwalk.stepping import Stepping


def steps(module):
    """List the steps on a module."""
    check_module(module)
    return list(Stepping(module).each_step())


def after(module, step):
    """Make the module that a step makes."""
    check_module(module)
    stepping = Stepping(module)
    if not stepping.is_step(step):
        raise InvalidStep(step)
    return _made_by(stepping, module, step)


def passed(module):
    """Do the first step again and again; tell the list of the steps and the module that they make."""
    check_module(module)
    done = []
    stepping = Stepping(module)
    step = _first_step(stepping)
    while step is not None:
        done.append(step)
        module = _made_by(stepping, module, step)
        stepping = Stepping(module)
        step = _first_step(stepping)
    return (done, module)


def is_row(module, value, other):
    """Tell whether any value is a list of steps, one on what the other makes, that make any other value."""
    check_module(module)
    if not isinstance(value, (list, tuple)):
        return False
    for step in value:
        stepping = Stepping(module)
        if not stepping.is_step(step):
            return False
        module = _made_by(stepping, module, step)
    # What is equal but no module has True or False in the place of an integer.
    return module_error(other) is None and other == module


def _first_step(stepping):
    for step in stepping.each_step():
        return step
    return None


def _made_by(stepping, module, step):
    draft = Draft(module, {})
    stepping.take(step, draft)
    return draft.as_module()
