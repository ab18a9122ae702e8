"""Fitting terms in all cases of a context at once (points 500 to 506).

A name is opened without asking for its state: all steps into the states that it may have have one maker then. So the
rows of point 505 need not be gone through while terms are fitted.
"""

from exactkinds.indices import put, whole
from exactkinds.solving import narrowed, solution, solutions


def parting_case(view, context, one, other):
    """Return the parting case (point 502) of two terms that are not always equal."""
    case = least_trees(view, context)
    if not _are_parted(one, other, case):
        for name in sorted(context):
            tree = view.second_tree(context[name])
            if tree is not None and _are_parted(one, other, {**case, name: tree}):
                case[name] = tree
                break
    return case


def _are_parted(one, other, case):
    return put(one, case) != put(other, case)


def least_trees(view, context):
    """Return the least case of a context (point 502)."""
    return {name: view.least_tree(state) for name, state in context.items()}


def numbered_parts(name, many):
    """Return the list of the names of the parts of a name that is opened (point 504)."""
    return [f"{name}.{number}" for number in range(1, many + 1)]


class Fitter:
    """Fitting patterns to terms some of whose names stand for further terms, and comparing such terms."""

    def __init__(self):
        self.terms = {}

    def in_full(self, term):
        """Return a term with the terms of all names put in."""
        return whole(term, self.terms)

    def fit(self, patterns, terms):
        """Return what the names of the patterns stand for if these fit the terms, otherwise None."""
        found = {}
        for pattern, term in zip(patterns, terms):
            if not self._fits(pattern, term, found):
                return None
        return found

    def _fits(self, pattern, term, found):
        if isinstance(pattern, str):
            return self.same(found.setdefault(pattern, term), term)
        term = self._followed(term)
        if isinstance(term, str):
            if not self.has_maker(term, pattern[0], len(pattern) - 1):
                return False
            term = self.terms[term]
        if term[0] != pattern[0]:
            return self.are_unlike()
        for inner, part in zip(pattern[1:], term[1:]):
            if not self._fits(inner, part, found):
                return False
        return True

    def same(self, one, other):
        """Return whether two terms are equal."""
        one = self._followed(one)
        other = self._followed(other)
        if one == other:
            return True
        if isinstance(one, str) or isinstance(other, str):
            return self.are_one_tree(one, other)
        if one[0] != other[0]:
            return self.are_unlike()
        # If both have the same single state, their parts have such, too.
        for part, beside in zip(one[1:], other[1:]):
            if not self.same(part, beside):
                return False
        return True

    def are_unlike(self):
        """Return False, as two makers differ."""
        return False

    def _followed(self, term):
        return self.terms.get(term, term) if isinstance(term, str) else term


class Cases(Fitter):
    """The cases of contexts, one for each solution of wants, in which all patterns fitted so far.

    The names that were opened stand for terms, and the domains have the others. If something does not fit or is not
    equal in a case, fault becomes a context that has such cases, and a tuple of what makes a case such a one: a name
    and a maker that is not its, or two terms that differ, or nothing if all cases are such.
    """

    def __init__(self, view, domains, wants):
        Fitter.__init__(self)
        self.view = view
        self.names = list(domains)
        self.domains = domains
        self.wants = wants
        self.fault = None
        self._settle()

    def _settle(self):
        left = narrowed(self.view, self.domains, self.wants)
        if left is not None:
            self.domains, self.wants = left

    def first_context(self, further):
        """Return a context in which further wants hold, or None if there is none."""
        return solution(self.view, self.domains, self.wants + further)

    def spoil(self, further, reason):
        """Make a context in which further wants hold the fault, if there is one; return whether there is one."""
        found = self.first_context(further)
        if found is not None:
            self.fault = (found, reason)
        return found is not None

    def wrong_case(self):
        """Return a case of the fault, a dict from the first names to trees, or None if there is no fault."""
        if self.fault is None:
            return None
        found, reason = self.fault
        case = least_trees(self.view, found)
        if reason and reason[0] == "maker":
            _, name, maker = reason
            case[name] = self.view.other_tree(maker, found[name])
        elif reason:
            _, one, other = reason
            case = parting_case(self.view, found, one, other)
        return {name: put(self.in_full(name), case) for name in self.names}

    def contexts(self):
        """Return the list of all contexts."""
        return solutions(self.view, self.domains, self.wants)

    def has_maker(self, name, maker, many):
        """Open a name if it has this maker in all cases; return whether it has."""
        if self.spoil([(self.view.other_set(maker), name)], ("maker", name, maker)):
            return False
        term = (maker, *numbered_parts(name, many))
        self.terms[name] = term
        self.wants = [(wanted, put(inner, {name: term})) for wanted, inner in self.wants]
        self.wants.append((self.domains[name], term))
        self.domains = {inner: chosen for inner, chosen in self.domains.items() if inner != name}
        for part in term[1:]:
            self.domains[part] = self.view.everything
        self._settle()
        return True

    def are_unlike(self):
        """Return False, as two makers differ, whatever the case."""
        return not self.spoil([], ())

    def are_one_tree(self, one, other):
        """Return whether two terms, one of which is a name, have the same single state in all contexts."""
        one = self.in_full(one)
        other = self.in_full(other)
        singles = self.view.single_set()
        several = self.view.everything ^ singles
        ways = [[(several, one)], [(several, other)]]
        for state in self.view.listed(singles):
            ways.append([(1 << state, one), (self.view.everything ^ (1 << state), other)])
        for further in ways:
            if self.spoil(further, ("terms", one, other)):
                return False
        return True
