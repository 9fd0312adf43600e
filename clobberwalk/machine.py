"""Runs of modules [8, 9, 10, 11]."""

from clobberwalk.asking import check_module, function_named
from clobberwalk.errors import InvalidInputs, InvalidNumber
from clobberwalk.forms import is_integer, is_number
from clobberwalk.limits import Limits
from clobberwalk.process import Process


class Run:
    """What a run put out and made, how many steps it did, and how it ended."""

    def __init__(self, outputs, steps, made, end):
        self.outputs = outputs
        self.steps = steps
        self.made = made
        self.end = end
        # The place of a fault is no part of the behaviour.
        self.behaviour = (outputs, end[:2] if end[0] == "fault" else end)

    def __eq__(self, other):
        return (
            isinstance(other, Run) and self.outputs == other.outputs and self.steps == other.steps
            and self.made == other.made and self.end == other.end
        )


def run(module, inputs, limit=2000):
    """Run a module with some inputs; the run ends after limit steps at the latest."""
    process = _process_of(module, inputs, limit)
    return Run(tuple(process.outputs), process.steps, tuple(process.made), process.end)


def touched(module, inputs, limit=2000):
    """List the tuples (place, cell, step) of all loads and stores that such a run does without a fault."""
    return _process_of(module, inputs, limit).touches


def is_inputs(module, value):
    """Tell whether value is a list of integers for the parameters of main."""
    if not isinstance(value, (list, tuple)):
        return False
    parameters = function_named(module, "main")[1]
    return len(value) == len(parameters) and all([is_number(part) for part in value])


def _process_of(module, inputs, limit):
    check_module(module)
    if not is_inputs(module, inputs):
        raise InvalidInputs(inputs)
    if not is_integer(limit) or not 1 <= limit <= Limits.MOST_STEPS:
        raise InvalidNumber(limit)
    process = Process(module, inputs)
    process.go_on(limit)
    return process
