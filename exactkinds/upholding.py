"""What upholds a machine (points 405, 406 and 409)."""

from exactkinds.choices import Choices
from exactkinds.growing import tuples_below
from exactkinds.rules import is_set, told_by
from exactkinds.tables import is_integer, is_row
from exactkinds.told import is_within


def is_formed(table, machine):
    """Return whether any value is a formed machine."""
    if not is_row(machine, 3) or machine[0] != "machine":
        return False
    if not _are_states(table, machine[1]) or not _are_steps(table, len(machine[1]), machine[2]):
        return False
    return _are_reached(machine)


def _are_states(table, value):
    if not isinstance(value, tuple):
        return False
    for at, state in enumerate(value):
        if not is_set(table, state) or state in value[:at]:
            return False
    return True


def _are_steps(table, count, value):
    """Return whether any value has a step for each maker and each tuple of states, in order."""
    asked = []
    for maker, many in table[1]:
        asked.extend([(maker, parts) for parts in tuples_below(count, many)])
    if not is_row(value, len(asked)):
        return False
    for step, (maker, parts) in zip(value, asked):
        if not is_row(step, 3) or step[0] != maker or not _are_same_places(step[1], parts):
            return False
        if not is_integer(step[2]) or not 0 <= step[2] < count:
            return False
    return True


def _are_same_places(value, parts):
    """Return whether any value is the tuple of these integers; True and False are equal to some, but are none."""
    if not is_row(value, len(parts)):
        return False
    for place, part in zip(value, parts):
        if not is_integer(place) or place != part:
            return False
    return True


def _are_reached(machine):
    """Return whether each state of a machine is that of some tree."""
    reached = {}
    many = -1
    while many < len(reached):
        many = len(reached)
        for _, parts, state in machine[2]:
            if False not in [part in reached for part in parts]:
                reached[state] = True
    return many == len(machine[1])


def is_model(table, machine):
    """Return whether any value is a formed machine that is a model of a table."""
    if not is_formed(table, machine):
        return False
    for constructor in table[3]:
        if Choices(machine, constructor).broken():
            return False
    return True


def is_upheld(table, machine, rules):
    """Return whether the first one of any two values is a formed machine that the second one upholds."""
    if not is_model(table, machine):
        return False
    told = told_by(table, rules)
    return told is not None and _are_steps_told(machine, told)


def _are_steps_told(machine, told):
    """Return whether there is a rule for each step and each family of its state."""
    states = machine[1]
    for maker, parts, state in machine[2]:
        sets = tuple([states[part] for part in parts])
        if not is_within(states[state], told.families_at(maker, sets, told.many)):
            return False
    return True
