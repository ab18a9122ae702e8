"""Terms in all cases of a context (points 500 to 507)."""

from exactkinds.fitting import Cases, least_trees, numbered_parts, parting_case
from exactkinds.machine import into
from exactkinds.solving import demand_wants, free_domains, solutions
from exactkinds.views import View


def state_in(machine, context, term):
    """Return the state that a term has in all cases of a context."""
    return View(machine).state_in(context, term)


def least_case(machine, context):
    """Return the case that gives each name the least tree of its state."""
    return least_trees(View(machine), context)


def parted(machine, context, one, other):
    """Return None if two terms are always equal in a context, otherwise their parting case."""
    view = View(machine)
    if _cases_of(view, context).same(one, other):
        return None
    return parting_case(view, context, one, other)


def _cases_of(view, context):
    return Cases(view, {name: 1 << state for name, state in context.items()}, [])


def opened(machine, context, name):
    """Return the list of the pairs of a term for the name and the context with its new names."""
    rows = []
    for maker, states in into(machine, context[name]):
        parts = numbered_parts(name, len(states))
        inner = {other: state for other, state in context.items() if other != name}
        inner.update(dict(zip(parts, states)))
        rows.append(((maker, *parts), inner))
    return rows


def fits(machine, context, patterns, terms):
    """Return ("always", rows) if the patterns fit the terms in all cases, otherwise ("not", case)."""
    cases = _cases_of(View(machine), context)
    found = cases.fit(patterns, terms)
    if found is None:
        return ("not", cases.wrong_case())
    return ("always", [_row(cases, inner, found) for inner in cases.contexts()])


def _row(cases, inner, found):
    """Return the row for one of the contexts in which the patterns fitted."""
    terms = {name: cases.in_full(name) for name in cases.names}
    return inner, terms, {name: cases.in_full(term) for name, term in found.items()}


def vectors(machine, names, demands):
    """Return the list of the contexts for the names in which all demands hold, in order."""
    view = View(machine)
    return solutions(view, free_domains(view, names), demand_wants(view, demands))
