"""Making values by the rules of a table."""

from exactkinds.sharing import folded
from exactkinds.tables import constructor_of, hidden_names
from exactkinds.told import Told


class Spot:
    """A tree for which values are made, of a maker and views of the parts.

    A view is a pair of a tuple of families and a spot: values of these families alone are asked for there. Made has the
    values by family, each as a pair of its depth and the value.
    """

    def __init__(self, maker, parts):
        self.maker = maker
        self.parts = parts
        self.made = {}


class Making:
    """The making of values by the rules that uphold the machine of a table, and by further ones behind them.

    A rule makes a value of values for the parts of its constructor. These are made by rules before it, of values at the
    parts of the tree; so the making ends. Of several rules for one tree that is asked for, the one is taken that makes
    the value least deep: otherwise values might become far deeper than they need be.
    """

    def __init__(self, table, rules, further):
        self.table = table
        self.rules = rules + further
        self.told = Told(table[2])
        for rule in rules:
            self.told.take(rule)
        self.numbers = {}
        for number in range(len(rules), len(self.rules)):
            self.numbers.setdefault(self.rules[number][:2], []).append(number)
        self.hidden = {}

    def value_at(self, family, tree):
        """Return a value of a family at a tree where it holds."""
        # From the leaves on, as each value is made of the least deep ones of the parts.
        _, spot = folded(tree, lambda maker, parts: self._full_view(maker, parts))
        _, value = spot.made[family]
        return value

    def _full_view(self, maker, parts):
        """Return the view of a tree with a value of each family that holds there."""
        families, spot = self._view(maker, parts, self.told.many)
        step = (maker, _sets_of(parts))
        first = list(self.told.numbers.get(step, {}).values())
        for number in first + self.numbers.get(step, []):
            family = self.rules[number][2]
            pair = self._value_by(number, spot)
            if family not in spot.made or pair[0] < spot.made[family][0]:
                spot.made[family] = pair
        return families, spot

    def _view(self, maker, parts, bound):
        """Return the view of a tree with the families that the rules below the bound tell there."""
        return self.told.families_at(maker, _sets_of(parts), bound), Spot(maker, parts)

    def _value_by(self, number, spot):
        """Return the value that a rule makes for a spot, with its depth."""
        constructor = constructor_of(self.table, self.rules[number][3])
        views = self._name_views(number, spot, constructor)
        items = [constructor[0]]
        deepest = 0
        for family, term in constructor[1]:
            _, inner = self._view_at(term, views, number)
            deep, value = self._value(inner, family)
            deepest = max(deepest, deep)
            items.append(value)
        return deepest + 1, tuple(items)

    def _value(self, spot, family):
        """Return a value of a family that a view of the spot has, with its depth."""
        if family not in spot.made:
            # The first rule is before all that this value is made for.
            number = self.told.numbers[(spot.maker, _sets_of(spot.parts))][family]
            spot.made[family] = self._value_by(number, spot)
        return spot.made[family]

    def _name_views(self, number, spot, constructor):
        """Return the dict of the views for the names of the constructor with which a rule is used for a spot."""
        sets = self.rules[number][1]
        parts = [(families, inner) for families, (_, inner) in zip(sets, spot.parts)]
        index = constructor[3]
        if isinstance(index, str):
            views = {index: self._view(spot.maker, parts, number)}
        else:
            views = dict(zip(index[1:], parts))
        for name, view in zip(hidden_names(constructor), self._hidden_views(number)):
            views[name] = view
        return views

    def _hidden_views(self, number):
        # They are the same at each use of the rule, and so are the values that are made there.
        if number not in self.hidden:
            trees = self.rules[number][4]
            self.hidden[number] = [self._closed_view(tree, number) for tree in trees]
        return self.hidden[number]

    def _closed_view(self, tree, bound):
        return folded(tree, lambda maker, parts: self._view(maker, parts, bound))

    def _view_at(self, term, views, bound):
        """Return the view of a term; the views are those of its names, and of the terms that were asked for before."""
        if term not in views:
            parts = []
            for part in term[1:]:
                parts.append(self._view_at(part, views, bound))
            views[term] = self._view(term[0], parts, bound)
        return views[term]


def _sets_of(views):
    return tuple([families for families, _ in views])
