"""The least and the second trees of the states of a machine (point 404).

A ranked tree is a pair of a rank and the tree. A rank is a tuple of the size of the tree, the number of its maker and
the ranks of its parts; so ranks, and ranked trees, are ordered as their trees are (point 104).
"""


def ranked(words, maker, parts):
    """Return the ranked tree that a maker makes of ranked trees; the words are those of the makers in order."""
    ranks = [rank for rank, _ in parts]
    trees = [tree for _, tree in parts]
    total = 1 + sum([rank[0] for rank in ranks])
    return ((total, words.index(maker), *ranks), (maker, *trees))


def least_ranked(machine):
    """Return the dict from the states to their least trees, ranked."""
    words = maker_words(machine)
    least = {}
    changed = True
    while changed:
        changed = False
        for maker, parts, state in machine[2]:
            if None in [least.get(part) for part in parts]:
                continue
            tree = ranked(words, maker, [least[part] for part in parts])
            if state not in least or tree < least[state]:
                least[state] = tree
                changed = True
    return least


def second_ranked(machine, least):
    """Return the dict from the states that are not single to their second trees, ranked."""
    words = maker_words(machine)
    second = {}
    changed = True
    while changed:
        changed = False
        for maker, parts, state in machine[2]:
            for row in _early_rows(parts, least, second):
                tree = ranked(words, maker, row)
                if tree != least[state] and (state not in second or tree < second[state]):
                    second[state] = tree
                    changed = True
    return second


def _early_rows(parts, least, second):
    """Return the rows of trees of the parts that may make a second tree.

    These are the least trees, and those with a second tree in the place of one of them: other rows make later trees.
    """
    row = [least[part] for part in parts]
    rows = [row]
    for at, part in enumerate(parts):
        if part in second:
            rows.append([*row[:at], second[part], *row[at + 1:]])
    return rows


def maker_words(machine):
    """Return the list of the words of the makers of a machine, in order."""
    words = []
    for maker, _, _ in machine[2]:
        if maker not in words:
            words.append(maker)
    return words
