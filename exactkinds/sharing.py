"""Reckoning over trees and values some of whose parts are one and the same.

A value that is nested 24 deep may be made of few tuples and yet have millions of places, as a tuple may stand at
many of them. So what was reckoned of a tuple is kept for a while, and is not reckoned again at its next place.
"""

# The places of one tuple mostly stand close together, and a longer row would only take longer to search.
MOST_KEPT = 32


class Kept:
    """The tuples that were reckoned last, with what they gave: for each first word a row of pairs."""

    def __init__(self):
        self.rows = {}

    def pair_of(self, tree):
        """Return the pair of a tuple and what it gave, or None if it is not kept."""
        for pair in reversed(self.rows.get(tree[0], [])):
            if pair[0] == tree:
                return pair
        return None

    def keep(self, tree, result):
        """Keep what a tuple gave, and no more than so many of its row."""
        row = self.rows.setdefault(tree[0], [])
        row.append((tree, result))
        del row[:-MOST_KEPT]


def folded(tree, reckon):
    """Return what reckon gives for the first word of a tree without names and for what its parts gave."""
    return _folded(tree, reckon, Kept())


def _folded(tree, reckon, kept):
    pair = kept.pair_of(tree)
    if pair is not None:
        return pair[1]
    results = []
    for part in tree[1:]:
        results.append(_folded(part, reckon, kept))
    result = reckon(tree[0], results)
    kept.keep(tree, result)
    return result
