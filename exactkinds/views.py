"""A machine made ready to be asked often (points 402 to 404).

Sets of states are integers here: they have a bit for each state.
"""

from exactkinds.ranks import least_ranked, maker_words, ranked, second_ranked


class View:
    """The steps of a machine by their makers, what they make of sets of states, and the trees of its states."""

    def __init__(self, machine):
        self.machine = machine
        self.states = machine[1]
        self.everything = (1 << len(machine[1])) - 1
        self.steps = {}
        self.rows = {}
        for maker, parts, state in machine[2]:
            self.steps[(maker, parts)] = state
            self.rows.setdefault(maker, []).append((parts, state))
        self.lists = {}
        self.ups = {}
        self.downs = {}
        # Only found when they are asked for, as most of what is asked of a machine needs no trees.
        self.least = {}
        self.second = {}

    def state_in(self, context, term):
        """Return the state that a term has in all cases of a context."""
        if isinstance(term, str):
            return context[term]
        parts = []
        for part in term[1:]:
            parts.append(self.state_in(context, part))
        return self.steps[(term[0], tuple(parts))]

    def listed(self, chosen):
        """Return the list of the states of a set, ascending."""
        if chosen not in self.lists:
            self.lists[chosen] = [state for state in range(len(self.states)) if chosen & (1 << state)]
        return self.lists[chosen]

    def holding_set(self, family):
        """Return the set of the states with a family."""
        return self._set_of([state for state, families in enumerate(self.states) if family in families])

    def single_set(self):
        """Return the set of the states with one tree alone.

        These are the states into which one step alone leads, and this one from such states.
        """
        steps = [[] for _ in self.states]
        for _, parts, state in self.machine[2]:
            steps[state].append(parts)
        singles = {}
        many = -1
        while many < len(singles):
            many = len(singles)
            for state, rows in enumerate(steps):
                if len(rows) == 1 and False not in [part in singles for part in rows[0]]:
                    singles[state] = True
        return self._set_of(list(singles))

    def other_set(self, maker):
        """Return the set of the states that have a tree with another maker."""
        found = 0
        for word in self.rows:
            if word != maker:
                for _, state in self.rows[word]:
                    found = found | (1 << state)
        return found

    def _set_of(self, states):
        found = 0
        for state in states:
            found = found | (1 << state)
        return found

    def up(self, maker, sets):
        """Return the set of the states that the steps of a maker make of states of these sets."""
        key = (maker, sets)
        if key not in self.ups:
            found = 0
            for parts, state in self.rows[maker]:
                if _are_in(parts, sets):
                    found = found | (1 << state)
            self.ups[key] = found
        return self.ups[key]

    def down(self, maker, sets, wanted):
        """Return the list of the sets of those states among these of which the maker makes a wanted one."""
        key = (maker, sets, wanted)
        if key not in self.downs:
            found = [0 for _ in sets]
            for parts, state in self.rows[maker]:
                if wanted & (1 << state) and _are_in(parts, sets):
                    found = [chosen | (1 << part) for chosen, part in zip(found, parts)]
            self.downs[key] = found
        return self.downs[key]

    def least_tree(self, state):
        """Return the least tree of a state."""
        _, tree = self._least_ranked()[state]
        return tree

    def second_tree(self, state):
        """Return the second tree of a state, or None."""
        if not self.second:
            found = second_ranked(self.machine, self._least_ranked())
            for one in range(len(self.states)):
                self.second[one] = found[one][1] if one in found else None
        return self.second[state]

    def other_tree(self, maker, state):
        """Return the first tree of a state that has another maker; there must be one."""
        words = maker_words(self.machine)
        rows = []
        for word, parts, made in self.machine[2]:
            if word != maker and made == state:
                rows.append(ranked(words, word, [self._least_ranked()[part] for part in parts]))
        _, tree = min(rows)
        return tree

    def _least_ranked(self):
        if not self.least:
            self.least.update(least_ranked(self.machine))
        return self.least


def _are_in(parts, sets):
    for part, chosen in zip(parts, sets):
        if not chosen & (1 << part):
            return False
    return True
