"""Raw values, their indices, their order, and what a function asks of values (points 303 to 305)."""

from exactkinds.indices import fitted, is_tree, order, part_rows, put
from exactkinds.sharing import folded


def is_raw(table, value):
    """Return whether any value is a raw value of the table."""
    return is_tree(_counts(table), value)


def _counts(table):
    """Return the pairs of a constructor and its number of parts: raw values are trees over these as makers."""
    return tuple([(word, len(parts)) for word, parts, _, _ in table[3]])


def index_of(table, value):
    """Return the pair of the family and the index of a raw value, or None."""
    constructors = {constructor[0]: constructor for constructor in table[3]}
    return folded(value, lambda word, kinds: made_kind(constructors[word], kinds))


def made_kind(constructor, kinds):
    """Return the family and the index that a constructor makes of parts with these, or None."""
    _, parts, family, index = constructor
    trees = trees_for(parts, kinds)
    return None if trees is None else (family, put(index, trees))


def trees_for(asked, kinds):
    """Return the trees for the names of the asked families and terms, or None if these kinds are not such.

    Kinds are pairs of a family and an index, or None for a value that has none.
    """
    for (family, _), kind in zip(asked, kinds):
        if kind is None or kind[0] != family:
            return None
    return fitted([term for _, term in asked], [tree for _, tree in kinds])


def size(value):
    """Return the number of the constructors of a raw value."""
    return folded(value, lambda word, sizes: 1 + sum(sizes))


def before(table, one, other):
    """Return whether a raw value comes before another one."""
    return order(_counts(table), one, other) == -1


def values_of(table, total):
    """Return the list of all values with this size, in order."""
    # The row with the number n holds the values of the size n; none has the size 0.
    rows = [[]]
    for many in range(1, total + 1):
        rows.append(_values_of_size(table, rows, many))
    return rows[total]


def _values_of_size(table, rows, total):
    found = []
    for word, parts, _, _ in table[3]:
        for row in part_rows(rows, len(parts), total - 1):
            value = (word, *row)
            if index_of(table, value) is not None:
                found.append(value)
    return found


def demanded(table, function, values):
    """Return the trees for the names of a function if the values have the indices that it asks for, or None."""
    return trees_for(function[1], [index_of(table, value) for value in values])
