"""What is known of the index names of a context as the cases of a paper go on (point 1003)."""

from exactkinds.fitting import numbered_parts
from exactkinds.indices import whole
from exactkinds.pieces import names_told


class Sheet:
    """The states and the terms that the index names of a context got.

    A name that got a term keeps its state, which is that of the term. Block has the terms that were met last where
    something did not fit or was not the same.
    """

    def __init__(self, view, told):
        self.view = view
        self.names = names_told(told)
        self.places = told[1]
        self.singles = view.single_set()
        self.states = {}
        self.terms = {}
        self.block = ()

    def is_free(self, name):
        """Return whether an index name has neither a state nor a term."""
        return name in self.names and name not in self.states

    def is_closed(self, name):
        """Return whether a name is an index name with a state and without a term."""
        return name in self.states and name not in self.terms

    def give_state(self, name, state):
        """Give a free name a state, in the place of one that it was given here before."""
        self.states[name] = state

    def take_state(self, name):
        """Take the state of a name away."""
        del self.states[name]

    def give_term(self, name, maker, states):
        """Give a closed name the term of a step."""
        parts = numbered_parts(name, len(states))
        self.terms[name] = (maker, *parts)
        for part, state in zip(parts, states):
            self.states[part] = state

    def take_term(self, name):
        """Take the term of a name away, and the names in it."""
        for part in self.terms.pop(name)[1:]:
            del self.states[part]

    def state_of(self, term):
        """Return the state of a term, or None if not all of its names have states."""
        if isinstance(term, str):
            return self.states.get(term)
        parts = []
        for part in term[1:]:
            state = self.state_of(part)
            if state is None:
                return None
            parts.append(state)
        return self.view.steps[(term[0], tuple(parts))]

    def is_never(self, at):
        """Return whether the place with a number has a state, and its family is not in it."""
        family, term = self.places[at]
        state = self.state_of(term)
        return state is not None and family not in self.view.states[state]

    def in_full(self, term):
        """Return a term with the terms of its names put in."""
        return whole(term, self.terms)

    def fit(self, patterns, terms):
        """Return what the names of the patterns stand for if these fit the terms, otherwise None."""
        found = {}
        for pattern, term in zip(patterns, terms):
            if not self._fits(pattern, term, found):
                return None
        return found

    def _fits(self, pattern, term, found):
        if isinstance(pattern, str):
            return self.same(found.setdefault(pattern, term), term)
        term = self._followed(term)
        if isinstance(term, str) or term[0] != pattern[0]:
            self.block = (term,)
            return False
        for inner, part in zip(pattern[1:], term[1:]):
            if not self._fits(inner, part, found):
                return False
        return True

    def _followed(self, term):
        return self.terms.get(term, term) if isinstance(term, str) else term

    def same(self, one, other):
        """Return whether two terms are the same as point 1003 tells."""
        one = self._followed(one)
        other = self._followed(other)
        if one == other:
            return True
        if isinstance(one, str) or isinstance(other, str) or one[0] != other[0]:
            return self._are_one_tree(one, other)
        # If both have the same single state, their parts have such, too.
        for part, beside in zip(one[1:], other[1:]):
            if not self.same(part, beside):
                return False
        return True

    def _are_one_tree(self, one, other):
        state = self.state_of(one)
        if state is not None and self.singles & (1 << state) and state == self.state_of(other):
            return True
        self.block = (one, other)
        return False
