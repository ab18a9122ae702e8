"""The machine of a table and rules that uphold it, found together (points 401 to 409).

Rules are added until the machine of what they tell is a model of the table. Each rule is right, so all that they tell
is true; and a model has all that holds. So this machine is that of the table.
"""

from exactkinds.choices import Choices
from exactkinds.ranks import ranked
from exactkinds.tables import hidden_names
from exactkinds.told import Told


def grown(table):
    """Return the machine of a table, the list of the least trees of its states, and rules by which it is upheld."""
    told = Told(table[2])
    rules = []
    while True:
        many = len(rules)
        machine, trees = _machine_told(table[1], told)
        for constructor in table[3]:
            choices = Choices(machine, constructor)
            for rule in _rules_for(machine, trees, constructor, choices.picked(choices.broken())):
                maker, sets, family, _, _ = rule
                # Another constructor may have brought a rule for it in this round.
                if family not in told.families_at(maker, sets, told.many):
                    rules.append(rule)
                    told.take(rule)
        if len(rules) == many:
            return machine, trees, rules


def step_rules(table, machine, trees):
    """Return the list of the rules for each step and each constructor by which a family is in its state.

    The machine is that of the table. These rules are right behind those that uphold it.
    """
    rules = []
    for constructor in table[3]:
        choices = Choices(machine, constructor)
        rules.extend(_rules_for(machine, trees, constructor, choices.picked(choices.held())))
    return rules


def _rules_for(machine, trees, constructor, rows):
    """Return the list of the rules that use a constructor with rows of states for its names.

    The trees are the least ones of the states.
    """
    word, _, family, index = constructor
    rules = []
    for row in rows:
        hidden = tuple([trees[row[name]] for name in hidden_names(constructor)])
        for maker, parts in _made_steps(machine, index, row):
            sets = tuple([machine[1][part] for part in parts])
            rules.append((maker, sets, family, word, hidden))
    return rules


def _made_steps(machine, index, row):
    """Return the pairs of a maker and the states of its parts for a made index with these states of its names."""
    if isinstance(index, str):
        return [(maker, parts) for maker, parts, state in machine[2] if state == row[index]]
    return [(index[0], tuple([row[name] for name in index[1:]]))]


def _machine_told(makers, told):
    """Return the machine of what rules tell, with its states in order, and the list of their least trees."""
    reach = Reach(makers, told)
    reach.enter_steps()
    while reach.waiting:
        reach.settle_first()
        reach.enter_steps()
    return reach.found_machine(), [tree for _, tree in reach.trees]


class Reach:
    """The states of what rules tell, as they are found in the order of their first trees.

    The steps have a state for each maker and each tuple of places of states that were found; the trees, ranked, are the
    least ones of these states. Other states wait with the first tree so far.
    """

    def __init__(self, makers, told):
        self.makers = makers
        self.words = [word for word, _ in makers]
        self.told = told
        self.states = []
        self.trees = []
        self.steps = {}
        self.waiting = {}

    def enter_steps(self):
        """Enter the steps from the states that were found."""
        for maker, many in self.makers:
            for parts in tuples_below(len(self.states), many):
                if (maker, parts) not in self.steps:
                    self._enter_step(maker, parts)

    def _enter_step(self, maker, parts):
        sets = tuple([self.states[part] for part in parts])
        state = self.told.families_at(maker, sets, self.told.many)
        self.steps[(maker, parts)] = state
        if state not in self.states:
            tree = ranked(self.words, maker, [self.trees[part] for part in parts])
            self.waiting[state] = min(tree, self.waiting.get(state, tree))

    def settle_first(self):
        """Take the waiting state with the first tree: all that is made later comes behind this tree."""
        state = min(self.waiting, key=lambda one: self.waiting[one])
        self.states.append(state)
        self.trees.append(self.waiting.pop(state))

    def found_machine(self):
        """Return the machine, when no state waits any more."""
        rows = []
        for maker, many in self.makers:
            for parts in tuples_below(len(self.states), many):
                rows.append((maker, parts, self.states.index(self.steps[(maker, parts)])))
        return ("machine", tuple(self.states), tuple(rows))


def tuples_below(count, many):
    """Return the list of the tuples of so many integers from 0 to below the count, ascending."""
    rows = [()]
    for _ in range(many):
        rows = [(*row, place) for row in rows for place in range(count)]
    return rows
