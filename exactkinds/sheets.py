"""What is known of the index names of a context as the cases of a paper go on (point 1003)."""

from exactkinds.fitting import Fitter, numbered_parts
from exactkinds.pieces import names_told


class Sheet(Fitter):
    """The states and the terms that the index names of a context got.

    A name that got a term keeps its state, which is that of the term. Block has the terms that were compared last by
    their states, or the name that was met last where a maker was asked for.
    """

    def __init__(self, view, told):
        Fitter.__init__(self)
        self.view = view
        self.names = names_told(told)
        self.places = told[1]
        self.singles = view.single_set()
        self.states = {}
        self.block = ()

    def is_free(self, name):
        """Return whether an index name has neither a state nor a term."""
        return name in self.names and name not in self.states

    def is_closed(self, name):
        """Return whether a name is an index name with a state and without a term."""
        return name in self.states and name not in self.terms

    def give_state(self, name, state):
        """Give a free name a state, in the place of one that it was given here before."""
        self.states[name] = state

    def take_state(self, name):
        """Take the state of a name away."""
        del self.states[name]

    def give_term(self, name, maker, states):
        """Give a closed name the term of a step."""
        parts = numbered_parts(name, len(states))
        self.terms[name] = (maker, *parts)
        for part, state in zip(parts, states):
            self.states[part] = state

    def take_term(self, name):
        """Take the term of a name away, and the names in it."""
        for part in self.terms.pop(name)[1:]:
            del self.states[part]

    def state_of(self, term):
        """Return the state of a term, or None if not all of its names have states."""
        if isinstance(term, str):
            return self.states.get(term)
        parts = []
        for part in term[1:]:
            state = self.state_of(part)
            if state is None:
                return None
            parts.append(state)
        return self.view.steps[(term[0], tuple(parts))]

    def is_never(self, at):
        """Return whether the place with a number has a state, and its family is not in it."""
        family, term = self.places[at]
        state = self.state_of(term)
        return state is not None and family not in self.view.states[state]

    def has_maker(self, name, maker, many):
        """Return False: a maker fits the same maker alone."""
        self.block = (name,)
        return False

    def are_one_tree(self, one, other):
        """Return whether two terms, one of which is a name, have the same single state."""
        self.block = (one, other)
        state = self.state_of(one)
        return state is not None and self.singles & (1 << state) > 0 and state == self.state_of(other)
