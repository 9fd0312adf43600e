"""The functions that a workshop asks about its module, by their names."""

from clobberwalk.calls import callers, calls, can_call, chain, is_chain, level, rings
from clobberwalk.derivations import is_closed, is_derivation, why_fact
from clobberwalk.effects import call_effects, cells, is_calm, open_reads, open_writes, reach, reads, shows, writes
from clobberwalk.errors import UnknownName
from clobberwalk.escape import is_path, leaves, leaving, shows_staying, staying, why_leaves
from clobberwalk.facts import facts, given_by, goals, holds, kept, live
from clobberwalk.faults import is_sure, sorts, words
from clobberwalk.graphs import (
    depth, dominates, frontier, immediate_dominator, is_reducible, loops, post_dominates, reached, way_around,
)
from clobberwalk.machine import run, touched
from clobberwalk.parting import parted
from clobberwalk.steps import after, is_row, passed, steps
from clobberwalk.texts import show_module
from clobberwalk.versions import clobber, meets, seen, writers
from clobberwalk.views import given_in, goals_split, holds_in, kept_split, views


def function_asked(word):
    """Find the function with a name; UnknownName(word) for any other value."""
    functions = {
        "run": run, "touched": touched,
        "reached": reached, "dominates": dominates, "way_around": way_around,
        "immediate_dominator": immediate_dominator, "frontier": frontier, "post_dominates": post_dominates,
        "loops": loops, "depth": depth, "is_reducible": is_reducible,
        "holds": holds, "given_by": given_by, "kept": kept, "live": live, "goals": goals, "facts": facts,
        "why_fact": why_fact, "is_derivation": is_derivation, "is_closed": is_closed,
        "words": words, "is_sure": is_sure, "sorts": sorts,
        "calls": calls, "callers": callers, "can_call": can_call, "rings": rings, "level": level, "chain": chain,
        "is_chain": is_chain,
        "cells": cells, "reads": reads, "writes": writes, "open_reads": open_reads, "open_writes": open_writes,
        "shows": shows, "is_calm": is_calm, "call_effects": call_effects, "reach": reach,
        "leaves": leaves, "leaving": leaving, "staying": staying, "why_leaves": why_leaves, "is_path": is_path,
        "shows_staying": shows_staying,
        "views": views, "holds_in": holds_in, "given_in": given_in, "kept_split": kept_split,
        "goals_split": goals_split,
        "meets": meets, "writers": writers, "clobber": clobber, "seen": seen,
        "steps": steps, "after": after, "passed": passed, "is_row": is_row,
        "parted": parted,
        "show_module": show_module,
    }
    if not isinstance(word, str) or word not in functions:
        raise UnknownName(word)
    return functions[word]
