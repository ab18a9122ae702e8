"""Skeletons and the clauses beside them (points 800, 803 and 804)."""

from exactkinds.tables import constructor_of, constructors_of


def first_skeleton(function):
    """Return the skeleton of a function that has names alone."""
    return _numbered(["" for _ in function[1]])


def _numbered(patterns):
    """Return the skeleton of patterns whose names become v0, v1, .. from left to right."""
    count = 0
    items = []
    for pattern in patterns:
        item, count = _renamed(pattern, count)
        items.append(item)
    return tuple(items)


def _renamed(pattern, count):
    """Return the pattern with names numbered from the count on, and the number for the next name."""
    if isinstance(pattern, str):
        return f"v{count}", count + 1
    items = [pattern[0]]
    for part in pattern[1:]:
        item, count = _renamed(part, count)
        items.append(item)
    return tuple(items), count


def kinds_in(table, function, skeleton):
    """Return the list of the families of the names of a skeleton, in order."""
    found = []
    for pattern, (family, _) in zip(skeleton, function[1]):
        _add_kinds(table, pattern, family, found)
    return found


def _add_kinds(table, pattern, family, found):
    if isinstance(pattern, str):
        found.append(family)
        return
    for part, (inner, _) in zip(pattern[1:], constructor_of(table, pattern[0])[1]):
        _add_kinds(table, part, inner, found)


def filled(skeleton, values):
    """Return the tuple of the patterns of a skeleton with these values, one for each name in order, for its names."""
    by_name = {f"v{number}": value for number, value in enumerate(values)}
    return tuple([_with_values(pattern, by_name) for pattern in skeleton])


def _with_values(pattern, by_name):
    if isinstance(pattern, str):
        return by_name[pattern]
    items = [pattern[0]]
    for part in pattern[1:]:
        items.append(_with_values(part, by_name))
    return tuple(items)


def split_at(table, function, skeleton, at):
    """Return the list of the skeletons with each constructor of its family, over names, for the name with a number."""
    kinds = kinds_in(table, function, skeleton)
    names = [f"v{number}" for number in range(len(kinds))]
    found = []
    for word, parts, _, _ in constructors_of(table, kinds[at]):
        items = list(names)
        items[at] = (word, *["" for _ in parts])
        found.append(_numbered(filled(skeleton, items)))
    return found


def beside(patterns, skeleton):
    """Return None if a clause with these patterns clashes, otherwise the list of the names at which it is open."""
    found = []
    for pattern, shape in zip(patterns, skeleton):
        if not _meets(pattern, shape, found):
            return None
    return found


def _meets(pattern, shape, found):
    """Add the names at which a pattern is open beside a shape; return whether it does not clash."""
    if isinstance(pattern, str):
        return True
    if isinstance(shape, str):
        found.append(shape)
        return True
    if pattern[0] != shape[0]:
        return False
    for inner, part in zip(pattern[1:], shape[1:]):
        if not _meets(inner, part, found):
            return False
    return True


def next_step(function, skeleton):
    """Return the place of the first clause that does not clash, and the number of the name that is split for it.

    The place is -1 if all clauses clash, and the number is None if nothing is split.
    """
    for clause, (patterns, _) in enumerate(function[5]):
        names = beside(patterns, skeleton)
        if names is not None:
            return clause, int(names[0][1:]) if names else None
    return -1, None


def shapes_of(patterns, skeleton):
    """Return the dict from the names of patterns that fit a skeleton to what stands there in it."""
    found = {}
    for pattern, shape in zip(patterns, skeleton):
        _add_shapes(pattern, shape, found)
    return found


def _add_shapes(pattern, shape, found):
    if isinstance(pattern, str):
        found[pattern] = shape
        return
    for inner, part in zip(pattern[1:], shape[1:]):
        _add_shapes(inner, part, found)
