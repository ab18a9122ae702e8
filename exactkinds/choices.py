"""The choices of states for the names of a constructor (point 406).

There are many choices, so whole sets of them are reckoned with. A choice has a number, whose digits, in the base of the
number of states, are the states of the names; and a set of choices is an integer that has a bit for each choice.
"""

from exactkinds.tables import hidden_names, made_names


class Choices:
    """The choices for a constructor; sets has for each term the list of the sets in which it has each state."""

    def __init__(self, machine, constructor):
        self.states = machine[1]
        self.steps = machine[2]
        self.constructor = constructor
        self.weights = {}
        total = 1
        # The hidden names get the lower digits: so the choices that differ in them alone stand together.
        for name in hidden_names(constructor) + made_names(constructor):
            self.weights[name] = total
            total = total * len(self.states)
        self.total = total
        self.everything = (1 << total) - 1
        self.sets = {}

    def held(self):
        """Return the set of the choices that have all parts of the constructor."""
        held = self.everything
        for family, term in self.constructor[1]:
            # Most sets are empty soon, and an empty one stays so.
            if held:
                held = held & self._holding(family, term)
        return held

    def broken(self):
        """Return the set of the choices that have all parts but not what the constructor makes."""
        held = self.held()
        if not held:
            return 0
        _, _, family, index = self.constructor
        return held & (self.everything ^ self._holding(family, index))

    def picked(self, chosen):
        """Return a list of dicts from names to states: a choice of the set for each choice for the made names."""
        found = []
        while chosen:
            # The lowest bit is the choice with the first states for the hidden names.
            number = (chosen & -chosen).bit_length() - 1
            row = {name: self._digit(number, name) for name in self.weights}
            found.append(row)
            chosen = chosen & (self.everything ^ self._alike(row))
        return found

    def _digit(self, number, name):
        return (number // self.weights[name]) % len(self.states)

    def _alike(self, row):
        """Return the set of the choices with the same states for the made names."""
        alike = self.everything
        for name in made_names(self.constructor):
            alike = alike & self._sets_of(name)[row[name]]
        return alike

    def _holding(self, family, term):
        held = 0
        for state, chosen in zip(self.states, self._sets_of(term)):
            if family in state:
                held = held | chosen
        return held

    def _sets_of(self, term):
        if term not in self.sets:
            self.sets[term] = self._name_sets(term) if isinstance(term, str) else self._term_sets(term)
        return self.sets[term]

    def _name_sets(self, name):
        weight = self.weights[name]
        found = []
        for state in range(len(self.states)):
            # In the numbers from 0 on a digit is the same for as many as its weight, over and over again.
            chosen = ((1 << weight) - 1) << (weight * state)
            width = weight * len(self.states)
            while width < self.total:
                chosen = chosen | (chosen << width)
                width = width + width
            found.append(chosen & self.everything)
        return found

    def _term_sets(self, term):
        parts = [self._sets_of(part) for part in term[1:]]
        found = [0 for _ in self.states]
        for maker, places, state in self.steps:
            if maker == term[0]:
                chosen = self.everything
                for sets, place in zip(parts, places):
                    chosen = chosen & sets[place]
                found[state] = found[state] | chosen
        return found
