"""Inputs by which two modules behave otherwise [34]."""

from clobberwalk.asking import check_module, function_named
from clobberwalk.errors import InvalidNumber, WrongInputs
from clobberwalk.forms import is_integer
from clobberwalk.limits import Limits
from clobberwalk.machine import run

MOST_GREATEST = 3


def parted(module, other, *, greatest=2, limit=2000):
    """Find the first inputs by which two modules are parted: a tuple of them and both behaviours; None for none."""
    check_module(module)
    check_module(other)
    if not is_integer(greatest) or not 0 <= greatest <= MOST_GREATEST:
        raise InvalidNumber(greatest)
    if not is_integer(limit) or not 1 <= limit <= Limits.MOST_STEPS:
        raise InvalidNumber(limit)
    count = _count_of_inputs(module)
    if count != _count_of_inputs(other):
        raise WrongInputs()
    for inputs in _inputs_in_order(count, greatest):
        one = run(module, inputs, limit)
        two = run(other, inputs, limit)
        have_ended = one.end != ("limit",) and two.end != ("limit",)
        if have_ended and one.behaviour != two.behaviour:
            return (inputs, one.behaviour, two.behaviour)
    return None


def _count_of_inputs(module):
    return len(function_named(module, "main")[1])


def _inputs_in_order(count, greatest):
    """List all lists of so many integers: by the sums of their sizes, then ascending."""
    found = [[]]
    for _ in range(count):
        found = [[*inputs, number] for inputs in found for number in range(-greatest, greatest + 1)]
    return sorted(found, key=_rank_of)


def _rank_of(inputs):
    return (sum([abs(number) for number in inputs]), inputs)
