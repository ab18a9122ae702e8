"""Fitting terms in all cases of a context at once (points 500 to 506).

A name is opened without asking for its state: all steps into the states that it may have have one maker then. So the
rows of point 505 need not be gone through while terms are fitted.
"""

from exactkinds.indices import put, whole
from exactkinds.solving import narrowed, solution, solutions


def parting_case(view, context, one, other):
    """Return the parting case (point 502) of two terms that are not always equal."""
    case = least_trees(view, context)
    if not _are_parted(one, other, case):
        for name in sorted(context):
            tree = view.second_tree(context[name])
            if tree is not None and _are_parted(one, other, {**case, name: tree}):
                case[name] = tree
                break
    return case


def _are_parted(one, other, case):
    return put(one, case) != put(other, case)


def least_trees(view, context):
    """Return the least case of a context (point 502)."""
    return {name: view.least_tree(state) for name, state in context.items()}


def numbered_parts(name, many):
    """Return the list of the names of the parts of a name that is opened (point 504)."""
    return [f"{name}.{number}" for number in range(1, many + 1)]


class Cases:
    """The cases of contexts, one for each solution of wants, in which all patterns fitted so far.

    Opened has the terms of the names that were opened, and domains those that were not. If something does not fit or
    is not equal in a case, wrong becomes this case: a dict from the first names to trees.
    """

    def __init__(self, view, domains, wants):
        self.view = view
        self.names = list(domains)
        self.domains = domains
        self.wants = wants
        self.opened = {}
        self.wrong = None
        self._settle()

    def _settle(self):
        left = narrowed(self.view, self.domains, self.wants)
        if left is not None:
            self.domains, self.wants = left

    def first_context(self, further):
        """Return a context in which further wants hold, or None if there is none."""
        return solution(self.view, self.domains, self.wants + further)

    def first_case(self):
        """Return a case of the first names; there must be one."""
        return self._first_names(least_trees(self.view, self.first_context([])))

    def contexts(self):
        """Return the list of all contexts."""
        return solutions(self.view, self.domains, self.wants)

    def told(self, term):
        """Return the term with the terms of all opened names put in."""
        return whole(term, self.opened)

    def fit(self, patterns, terms):
        """Return what the names of the patterns stand for if these always fit the terms, otherwise None."""
        found = {}
        for pattern, term in zip(patterns, terms):
            if not self._fits(pattern, term, found):
                return None
        return found

    def _fits(self, pattern, term, found):
        if isinstance(pattern, str):
            return self.same(found.setdefault(pattern, term), term)
        term = self._followed(term)
        if isinstance(term, str):
            if not self._open(term, pattern[0], len(pattern) - 1):
                return False
            term = self.opened[term]
        if term[0] != pattern[0]:
            return self._differ()
        for inner, part in zip(pattern[1:], term[1:]):
            if not self._fits(inner, part, found):
                return False
        return True

    def _followed(self, term):
        return self.opened.get(term, term) if isinstance(term, str) else term

    def _open(self, name, maker, many):
        """Open a name if it has this maker in all cases; return whether it has."""
        others = self.view.other_set(maker)
        context = self.first_context([(others, name)])
        if context is not None:
            case = least_trees(self.view, context)
            case[name] = self.view.other_tree(maker, context[name])
            self.wrong = self._first_names(case)
            return False
        term = (maker, *numbered_parts(name, many))
        self.opened[name] = term
        self.wants = [(wanted, put(inner, {name: term})) for wanted, inner in self.wants]
        self.wants.append((self.domains[name], term))
        self.domains = {inner: chosen for inner, chosen in self.domains.items() if inner != name}
        for part in term[1:]:
            self.domains[part] = self.view.everything
        self._settle()
        return True

    def _differ(self):
        """Return False, as two makers differ in every case."""
        self.wrong = self.first_case()
        return False

    def _first_names(self, case):
        """Return what a case is for the names that were there at first."""
        return {name: put(self.told(name), case) for name in self.names}

    def same(self, one, other):
        """Return whether two terms are equal in all cases."""
        one = self._followed(one)
        other = self._followed(other)
        if one == other:
            return True
        if isinstance(one, str) or isinstance(other, str):
            return self._are_one_tree(self.told(one), self.told(other))
        if one[0] != other[0]:
            return self._differ()
        for part, beside in zip(one[1:], other[1:]):
            if not self.same(part, beside):
                return False
        return True

    def _are_one_tree(self, one, other):
        """Return whether two terms, one of which is a name, have the same single state in all contexts."""
        singles = self.view.single_set()
        several = self.view.everything ^ singles
        ways = [[(several, one)], [(several, other)]]
        for state in self.view.listed(singles):
            ways.append([(1 << state, one), (self.view.everything ^ (1 << state), other)])
        for further in ways:
            context = self.first_context(further)
            if context is not None:
                self.wrong = self._first_names(parting_case(self.view, context, one, other))
                return False
        return True
