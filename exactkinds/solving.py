"""Which states the names of terms may have (point 507).

A want is a pair of a set of states and a term whose state must be in this set. Domains are a dict from names to the
sets of the states that they may have. Sets of states are integers, as in a view.
"""

from exactkinds.indices import names_of


def demand_wants(view, demands):
    """Return the list of the wants for pairs of a family and a term."""
    return [(view.holding_set(family), term) for family, term in demands]


def free_domains(view, names):
    """Return the domains with which names may have all states."""
    return {name: view.everything for name in names}


def narrowed(view, domains, wants):
    """Return the pair of narrower domains and the wants that they do not make sure, or None if nothing is left.

    What is taken away from the domains is in no solution.
    """
    domains = dict(domains)
    changed = True
    while changed:
        changed = False
        rest = []
        for want in wants:
            wanted, term = want
            mark = _marked(view, domains, term)
            if not mark[0] & wanted:
                return None
            if mark[0] & wanted != mark[0]:
                rest.append(want)
                if _narrow(view, domains, term, mark, wanted):
                    changed = True
        wants = rest
    return domains, wants


def _marked(view, domains, term):
    """Return the pair of the set of the states that a term may have, and the list of these pairs for its parts."""
    if isinstance(term, str):
        return domains[term], []
    marks = []
    for part in term[1:]:
        marks.append(_marked(view, domains, part))
    return view.up(term[0], tuple([mark[0] for mark in marks])), marks


def _narrow(view, domains, term, mark, wanted):
    """Take from the domains what a term cannot have if its state is wanted; return whether there was such."""
    chosen, marks = mark
    if chosen & wanted == chosen:
        return False
    if isinstance(term, str):
        # A name may stand in a term twice, and be narrower now than when it was marked.
        narrower = domains[term] & wanted
        changed = narrower != domains[term]
        domains[term] = narrower
        return changed
    changed = False
    sets = view.down(term[0], tuple([inner[0] for inner in marks]), wanted)
    for part, inner, asked in zip(term[1:], marks, sets):
        if _narrow(view, domains, part, inner, asked):
            changed = True
    return changed


def solution(view, domains, wants):
    """Return a dict from the names to states such that all wants hold, or None if there is none."""
    left = narrowed(view, domains, wants)
    if left is None:
        return None
    domains, rest = left
    found = {name: view.listed(chosen)[0] for name, chosen in domains.items()}
    # Each group by itself: else all solutions of one would be tried where another one has none.
    for names, group in _groups(domains, rest):
        tried = _first_tried(view, domains, names, group)
        if tried is None:
            return None
        found.update(tried)
    return found


def _first_tried(view, domains, names, group):
    for inner in _branches(view, domains, names, group):
        found = solution(view, inner, group)
        if found is not None:
            return found
    return None


def _branches(view, domains, names, group):
    """Return the list of the domains for a group in which one of its names has a single state, in order."""
    inner = {}
    for _, term in group:
        for name in names_of(term):
            inner[name] = domains[name]
    least = min([(len(view.listed(domains[name])), name) for name in names])
    rows = []
    for state in view.listed(domains[least[1]]):
        row = dict(inner)
        row[least[1]] = 1 << state
        rows.append(row)
    return rows


def _groups(domains, wants):
    """Return a list of pairs of names and wants, such that no name stands in two of them.

    Names with one state alone are left out.
    """
    groups = []
    for want in wants:
        names = {name: True for name in names_of(want[1]) if domains[name] & (domains[name] - 1)}
        joined = [want]
        others = []
        for group in groups:
            if _have_common(names, group[0]):
                names.update(group[0])
                joined = group[1] + joined
            else:
                others.append(group)
        groups = others + [(names, joined)]
    return [(list(names), joined) for names, joined in groups]


def _have_common(names, others):
    for name in names:
        if name in others:
            return True
    return False


def solutions(view, domains, wants):
    """Return the list of all dicts from the names to states such that all wants hold.

    They are ordered by the states, the names in the order of strings.
    """
    names = sorted(domains)
    rows = _all_rows(view, domains, wants)
    ordered = sorted([tuple([row[name] for name in names]) for row in rows])
    return [dict(zip(names, row)) for row in ordered]


def _all_rows(view, domains, wants):
    left = narrowed(view, domains, wants)
    if left is None:
        return []
    domains, rest = left
    rows = [{}]
    grouped = {}
    for names, group in _groups(domains, rest):
        tried = []
        for inner in _branches(view, domains, names, group):
            tried.extend(_all_rows(view, inner, group))
        rows = [{**row, **more} for row in rows for more in tried]
        grouped.update({name: True for name in names})
    for name, chosen in domains.items():
        if name not in grouped:
            rows = [{**row, name: state} for row in rows for state in view.listed(chosen)]
    return rows
