"""What rules tell of the families that hold (points 407 and 408)."""


class Told:
    """The families that rules tell at a tree, by its maker and the families at its parts.

    The rules are numbered from 0 on as they come. For a maker and a tuple of sets of families at its parts, numbers
    has the number of the first rule for each family that is told there, so that earlier states can be asked, too.
    """

    def __init__(self, families):
        self.families = families
        self.subsets = _subsets_of(families)
        self.numbers = {}
        self.many = 0

    def take(self, rule):
        """Add what a further rule tells."""
        maker, sets, family, _, _ = rule
        # Greater sets are entered now, as rules are asked more often than they come.
        for wider in self._wider(sets):
            row = self.numbers.setdefault((maker, wider), {})
            row.setdefault(family, self.many)
        self.many += 1

    def _wider(self, sets):
        rows = [()]
        for inner in sets:
            above = [outer for outer in self.subsets if is_within(inner, outer)]
            rows = [(*row, outer) for row in rows for outer in above]
        return rows

    def families_at(self, maker, sets, bound):
        """Return the families that the rules with numbers below the bound tell, in the order of the table."""
        row = self.numbers.get((maker, sets), {})
        return tuple([family for family in self.families if row.get(family, bound) < bound])


def _subsets_of(families):
    rows = [()]
    for family in families:
        rows = rows + [(*row, family) for row in rows]
    return rows


def is_within(inner, outer):
    """Return whether all families of a set are in another one."""
    for family in inner:
        if family not in outer:
            return False
    return True
