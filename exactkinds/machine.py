"""The machine of a table, its states and their trees (points 400 to 404)."""

from exactkinds.growing import grown, step_rules
from exactkinds.making import Making
from exactkinds.ranks import least_ranked, second_ranked
from exactkinds.sharing import folded


def machine_of(table):
    """Return the machine of a table."""
    machine, _, _ = grown(table)
    return machine


def state_of(machine, tree):
    """Return the state of a tree."""
    steps = {(maker, parts): state for maker, parts, state in machine[2]}
    return folded(tree, lambda maker, parts: steps[(maker, tuple(parts))])


def step(machine, maker, parts):
    """Return the state that the step of a maker and a tuple of states gives."""
    for word, places, state in machine[2]:
        if word == maker and places == parts:
            return state
    return None


def holding(machine, state):
    """Return the tuple of the families of a state."""
    return machine[1][state]


def into(machine, state):
    """Return the list of the pairs of a maker and its parts whose step gives this state, in order."""
    return [(maker, parts) for maker, parts, made in machine[2] if made == state]


def is_single(machine, state):
    """Return whether a state has one tree alone."""
    return second(machine, state) is None


def least(machine, state):
    """Return the least tree of a state."""
    _, tree = least_ranked(machine)[state]
    return tree


def second(machine, state):
    """Return the second tree of a state, or None."""
    found = second_ranked(machine, least_ranked(machine))
    if state not in found:
        return None
    _, tree = found[state]
    return tree


def value_at(table, machine, family, tree):
    """Return a value of the family with this index, or None if there is none."""
    if family not in holding(machine, state_of(machine, tree)):
        return None
    return making_of(table).value_at(family, tree)


def making_of(table):
    """Return the making of values of a table."""
    machine, trees, rules = grown(table)
    return Making(table, rules, step_rules(table, machine, trees))
