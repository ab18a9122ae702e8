"""The pieces of a function: which clause takes which values (points 800 to 805)."""

from exactkinds.fitting import least_trees
from exactkinds.indices import names_of, put, unified
from exactkinds.machine import making_of
from exactkinds.skeletons import filled, first_skeleton, next_step, split_at
from exactkinds.solving import demand_wants, free_domains, solution
from exactkinds.tables import constructor_of
from exactkinds.views import View


class Opening:
    """The indices in a skeleton: what must be made one, and the families and terms at its names."""

    def __init__(self, table):
        self.table = table
        self.pairs = []
        self.places = []
        self.many = 0

    def enter(self, pattern, family, term):
        """Enter a pattern that stands at a family and a term."""
        if isinstance(pattern, str):
            self.places.append((family, term))
            return
        _, kinds, _, index = constructor_of(self.table, pattern[0])
        self.many += 1
        names = {}
        for _, inner in (*kinds, ("", index)):
            # With a dot in it a new name is none of the function's.
            names.update({name: f"{self.many}.{name}" for name in names_of(inner)})
        self.pairs.append((put(index, names), term))
        for part, (inner_family, inner) in zip(pattern[1:], kinds):
            self.enter(part, inner_family, put(inner, names))


def context(table, function, skeleton):
    """Return the context of a skeleton, or None."""
    opening = Opening(table)
    for pattern, (family, term) in zip(skeleton, function[1]):
        opening.enter(pattern, family, term)
    unifier = unified(opening.pairs)
    if unifier is None:
        return None
    params = [put(term, unifier) for _, term in function[1]]
    places = [(family, put(term, unifier)) for family, term in opening.places]
    names = {name: f"i{number}" for number, name in enumerate(names_told((params, places)))}
    return tuple([put(term, names) for term in params]), tuple([(family, put(term, names)) for family, term in places])


def names_told(told):
    """Return the list of the index names of a context, in order."""
    params, places = told
    found = {}
    for term in [*params, *[term for _, term in places]]:
        found.update({name: True for name in names_of(term)})
    return list(found)


def states_for(view, told, further):
    """Return states for the index names of a context such that its places have values, or None.

    Further are wants that must hold, too.
    """
    return solution(view, free_domains(view, names_told(told)), demand_wants(view, told[1]) + further)


def lives(table, machine, function, skeleton):
    """Return whether a skeleton lives."""
    return _lives(View(machine), table, function, skeleton)


def _lives(view, table, function, skeleton):
    told = context(table, function, skeleton)
    return told is not None and states_for(view, told, []) is not None


def pieces(table, machine, function):
    """Return the list of the pairs of a clause and a skeleton that are the pieces of a function, in order."""
    return pieces_of(View(machine), table, function)


def pieces_of(view, table, function):
    """Return the list of the pieces of a function, with a view of the machine."""
    found = []
    todo = [first_skeleton(function)]
    while todo:
        skeleton = todo.pop()
        if _lives(view, table, function, skeleton):
            clause, at = next_step(function, skeleton)
            if at is None:
                found.append((clause, skeleton))
            else:
                # Backwards, so that the first one is popped first.
                todo.extend(split_at(table, function, skeleton, at)[::-1])
    return found


def unreached(table, machine, function):
    """Return the ascending list of the clauses without a piece."""
    reached = [clause for clause, _ in pieces(table, machine, function)]
    return [clause for clause in range(len(function[5])) if clause not in reached]


def sample(table, machine, function, skeleton):
    """Return values that belong to a skeleton that lives and have the indices that the function asks for."""
    view = View(machine)
    told = context(table, function, skeleton)
    case = least_trees(view, states_for(view, told, []))
    return values_in(making_of(table), told, skeleton, case)


def values_in(making, told, skeleton, case):
    """Return the values of a skeleton with its context for a case in which its places have values."""
    values = [making.value_at(family, put(term, case)) for family, term in told[1]]
    return filled(skeleton, values)
