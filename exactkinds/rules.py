"""Rules: why families hold (points 407 and 408)."""

from exactkinds.growing import grown
from exactkinds.indices import is_tree
from exactkinds.sharing import folded
from exactkinds.tables import constructor_of, hidden_names, is_row, parts_of
from exactkinds.told import Told


def rules_of(table):
    """Return a list of rules by which the machine of a table is upheld."""
    _, _, rules = grown(table)
    return rules


def are_right(table, rules):
    """Return whether any value is a list of right rules."""
    return told_by(table, rules) is not None


def told_by(table, rules):
    """Return what a list of right rules tells, or None for any other value."""
    if not isinstance(rules, list):
        return None
    told = Told(table[2])
    for rule in rules:
        if not _is_rule(table, rule) or not _is_told(table, told, rule):
            return None
        told.take(rule)
    return told


def _is_rule(table, value):
    """Return whether any value is a rule whose constructor makes its family at its maker."""
    if not is_row(value, 5):
        return False
    maker, sets, family, word, hidden = value
    if not isinstance(maker, str) or not is_row(sets, parts_of(table, maker)):
        return False
    for one in sets:
        if not is_set(table, one):
            return False
    constructor = constructor_of(table, word)
    if constructor is None or constructor[2] != family:
        return False
    if isinstance(constructor[3], tuple) and constructor[3][0] != maker:
        return False
    return _are_trees(table, hidden, len(hidden_names(constructor)))


def is_set(table, value):
    """Return whether any value is a tuple of families, each once and in the order of the table."""
    return isinstance(value, tuple) and value == tuple([family for family in table[2] if family in value])


def _are_trees(table, value, many):
    if not is_row(value, many):
        return False
    for tree in value:
        if not is_tree(table[1], tree):
            return False
    return True


def _is_told(table, told, rule):
    """Return whether all parts of the constructor of a rule are told by the rules before it."""
    maker, sets, _, word, hidden = rule
    constructor = constructor_of(table, word)
    _, parts, _, index = constructor
    if isinstance(index, str):
        known = {index: told.families_at(maker, sets, told.many)}
    else:
        known = dict(zip(index[1:], sets))
    for name, tree in zip(hidden_names(constructor), hidden):
        known[name] = folded(tree, lambda inner, found: told.families_at(inner, tuple(found), told.many))
    for family, term in parts:
        if family not in _families_at(told, term, known):
            return False
    return True


def _families_at(told, term, known):
    """Return the families that are told at a term; known has those of its names."""
    if isinstance(term, str):
        return known[term]
    sets = []
    for part in term[1:]:
        sets.append(_families_at(told, part, known))
    return told.families_at(term[0], tuple(sets), told.many)
