"""Index terms and index trees: their form, order, putting, fitting and unifying (points 102 to 107)."""

from exactkinds.sharing import Kept


def is_term(makers, value):
    """Return whether any value is an index term over the makers."""
    return _has_form(dict(makers), value, True, Kept())


def is_tree(makers, value):
    """Return whether any value is an index tree over the makers."""
    return _has_form(dict(makers), value, False, Kept())


def _has_form(parts_by_word, value, may_have_names, kept):
    if isinstance(value, str):
        return may_have_names and value not in parts_by_word
    # The first item is looked up only if it is a string: lists and dicts are no keys.
    if not isinstance(value, tuple) or not value or not isinstance(value[0], str):
        return False
    if parts_by_word.get(value[0], -1) != len(value) - 1:
        return False
    if kept.pair_of(value) is not None:
        return True
    for part in value[1:]:
        if not _has_form(parts_by_word, part, may_have_names, kept):
            return False
    kept.keep(value, True)
    return True


def size(term):
    """Return the number of the makers and names in a term."""
    if isinstance(term, str):
        return 1
    many = 1
    for part in term[1:]:
        many += size(part)
    return many


def depth(term):
    """Return how deep a term is."""
    if isinstance(term, str):
        return 1
    deepest = 0
    for part in term[1:]:
        deepest = max(deepest, depth(part))
    return deepest + 1


def names_of(term):
    """Return the list of the names of a term in the order of their first places."""
    found = []
    todo = [term]
    while todo:
        here = todo.pop()
        if isinstance(here, tuple):
            # Backwards, so that the first part is popped first.
            todo.extend(here[:0:-1])
        elif here not in found:
            found.append(here)
    return found


def order(makers, one, other):
    """Return -1 if the first tree comes earlier, 0 if the two are the same, otherwise 1."""
    if size(one) != size(other):
        return -1 if size(one) < size(other) else 1
    if one[0] != other[0]:
        words = [word for word, _ in makers]
        return -1 if words.index(one[0]) < words.index(other[0]) else 1
    for part, beside in zip(one[1:], other[1:]):
        if part != beside:
            return order(makers, part, beside)
    return 0


def trees(makers, many):
    """Return the list of the first trees in the order, so many or all that there are."""
    # The row with the number n holds the trees of the size n; none has the size 0.
    rows = [[]]
    leaves = _trees_of_size(makers, rows, 1)
    found = list(leaves)
    rows.append(leaves)
    # Without a maker of each kind there are no further trees, however long one looks.
    endless = 0 < len(leaves) < len(makers)
    while endless and len(found) < many:
        row = _trees_of_size(makers, rows, len(rows))
        found.extend(row)
        rows.append(row)
    return found[:many]


def _trees_of_size(makers, rows, total):
    found = []
    for word, parts in makers:
        for row in part_rows(rows, parts, total - 1):
            found.append((word, *row))
    return found


def part_rows(rows, parts, total):
    """Return the tuples of so many trees with this size in total, in the order of the first that differs."""
    if parts == 0:
        return [()] if total == 0 else []
    found = []
    # Each of the other parts has at least the size 1.
    for taken in range(1, total - parts + 2):
        behind = part_rows(rows, parts - 1, total - taken)
        for first in rows[taken]:
            for row in behind:
                found.append((first, *row))
    return found


def put(term, assignment):
    """Return the term with all names that are assigned replaced at once."""
    if isinstance(term, str):
        return assignment.get(term, term)
    items = [term[0]]
    for part in term[1:]:
        items.append(put(part, assignment))
    return tuple(items)


def fitted(patterns, terms):
    """Return the assignment with which the patterns become the terms, or None."""
    found = {}
    for pattern, term in zip(patterns, terms):
        if not _fits(pattern, term, found):
            return None
    return found


def _fits(pattern, term, found):
    """Add to found what the names of the pattern stand for; return whether the pattern fits so."""
    if isinstance(pattern, str):
        return found.setdefault(pattern, term) == term
    if isinstance(term, str) or pattern[0] != term[0]:
        return False
    for inner, part in zip(pattern[1:], term[1:]):
        if not _fits(inner, part, found):
            return False
    return True


def unified(pairs):
    """Return the told unifier of the pairs of terms, or None."""
    bound = {}
    todo = list(pairs)
    while todo:
        one, other = todo.pop()
        one = _followed(one, bound)
        other = _followed(other, bound)
        if one == other:
            continue
        if isinstance(one, str):
            done = _bind(one, other, bound)
        elif isinstance(other, str):
            done = _bind(other, one, bound)
        else:
            done = one[0] == other[0]
            todo.extend(list(zip(one[1:], other[1:])))
        if not done:
            return None
    return _told(pairs, bound)


def _followed(term, bound):
    """Return what a term is bound to in the end, if it is a name, without looking into it."""
    while isinstance(term, str) and term in bound:
        term = bound[term]
    return term


def _bind(name, term, bound):
    """Bind a free name and another term, that is not bound either; return False if this cannot be."""
    if isinstance(term, str):
        # The first name in the order of strings is the one that must be left.
        bound[max(name, term)] = min(name, term)
        return True
    if _occurs(name, term, bound):
        return False
    bound[name] = term
    return True


def _occurs(name, term, bound):
    """Return whether a free name occurs in a term, once all that is bound is put into it."""
    seen = {}
    todo = [term]
    while todo:
        here = todo.pop()
        for inner in names_of(here):
            end = _followed(inner, bound)
            if end == name:
                return True
            if isinstance(end, tuple) and inner not in seen:
                seen[inner] = True
                todo.append(end)
    return False


def _told(pairs, bound):
    told = {}
    for pair in pairs:
        for term in pair:
            for name in names_of(term):
                if name in bound and name not in told:
                    told[name] = whole(name, bound)
    return told


def whole(term, bound):
    """Return the term with all that is bound put into it, also into what is put."""
    end = _followed(term, bound)
    if isinstance(end, str):
        return end
    items = [end[0]]
    for part in end[1:]:
        items.append(whole(part, bound))
    return tuple(items)
