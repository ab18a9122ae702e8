"""Making the trees and cases of a LET paper (points 1002 and 1003)."""

from exactkinds.indices import names_of
from exactkinds.machine import into
from exactkinds.pieces import context, states_for
from exactkinds.sheets import Sheet
from exactkinds.skeletons import first_skeleton, next_step, split_at
from exactkinds.solving import demand_wants, free_domains, solution
from exactkinds.telling import Ending, heads_of
from exactkinds.views import View


class Prover:
    """The maker of the trees for a program that is let."""

    def __init__(self, table, machine, program):
        self.table = table
        self.view = View(machine)
        self.heads = heads_of(table, program)

    def tree(self, function):
        """Return the tree of a function."""
        return self._tree(function, first_skeleton(function))

    def _tree(self, function, skeleton):
        told = context(self.table, function, skeleton)
        if told is None:
            return ("clash",)
        sheet = Sheet(self.view, told)
        if states_for(self.view, told, []) is None:
            return ("dead", Proof(self.heads, sheet, None).cases())
        # No piece of a right function is a hole, so there is such a clause.
        clause, at = next_step(function, skeleton)
        if at is None:
            ending = Ending(self.table, function, clause, skeleton, told)
            return ("body", clause, Proof(self.heads, sheet, ending).cases())
        trees = []
        for inner in split_at(self.table, function, skeleton, at):
            trees.append(self._tree(function, inner))
        return ("split", at, tuple(trees))


class Proof:
    """The making of the cases for a sheet and the ending of a right piece, or none for what is dead."""

    def __init__(self, heads, sheet, ending):
        self.heads = heads
        self.sheet = sheet
        self.view = sheet.view
        self.ending = ending
        self.wants = demand_wants(sheet.view, sheet.places)

    def cases(self):
        """Return the cases that go on from what the sheet has."""
        every = list(range(len(self.wants)))
        if not self._have_values(every):
            return self._refuted(every)
        return self._ended()

    def _ended(self):
        """Return the cases that go on where there are values, up to the ends."""
        if self.ending.holds(self.heads, self.sheet):
            return ("end",)
        name = self._blocking_name()
        if self.sheet.is_free(name):
            return self._over_states(name, self.cases)
        return self._over_steps(name)

    def _blocking_name(self):
        """Return a name that must get a state or a term before the ending holds."""
        names = []
        for term in self.sheet.block:
            names.extend(names_of(self.sheet.in_full(term)))
        for name in names:
            if self.sheet.is_free(name):
                return name
        return names[0]

    def _have_values(self, places):
        """Return whether states for the free names are left with which there are values at these places."""
        domains = free_domains(self.view, self.sheet.names)
        for name in self.sheet.names:
            if name in self.sheet.states:
                domains[name] = 1 << self.sheet.states[name]
        return solution(self.view, domains, [self.wants[at] for at in places]) is not None

    def _over_states(self, name, inner):
        rows = []
        for state in range(len(self.view.states)):
            self.sheet.give_state(name, state)
            rows.append(inner())
        self.sheet.take_state(name)
        return ("states", name, tuple(rows))

    def _over_steps(self, name):
        rows = []
        for maker, states in into(self.view.machine, self.sheet.states[name]):
            self.sheet.give_term(name, maker, states)
            # The step leads into the state that the name has already.
            rows.append(self._ended())
            self.sheet.take_term(name)
        return ("steps", name, tuple(rows))

    def _refuted(self, places):
        """Return cases that never end, as there are no values at all of these places together."""
        for at in places:
            if self.sheet.is_never(at):
                return ("never", at)
        fewer = self._needed(places)
        return self._over_states(self._best_name(fewer), lambda: self._refuted(fewer))

    def _needed(self, places):
        """Return those of the places that are enough for there being no values."""
        needed = places
        for at in places:
            fewer = [other for other in needed if other != at]
            if not self._have_values(fewer):
                needed = fewer
        return needed

    def _best_name(self, places):
        """Return the free name at the places after whose states the fewest cases go on."""
        rows = []
        for at in places:
            _, term = self.sheet.places[at]
            free = [name for name in names_of(term) if self.sheet.is_free(name)]
            for name in free:
                rows.append((self._going_on(name, places), len(free), name))
        _, _, name = min(rows)
        return name

    def _going_on(self, name, places):
        """Return how many states of a free name none of the places refutes at once."""
        many = 0
        for state in range(len(self.view.states)):
            self.sheet.give_state(name, state)
            if True not in [self.sheet.is_never(at) for at in places]:
                many += 1
        self.sheet.take_state(name)
        return many
