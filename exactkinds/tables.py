"""Tables (points 300 and 301)."""

from exactkinds.errors import BadTable
from exactkinds.indices import is_term, names_of
from exactkinds.limits import (
    MOST_CONSTRUCTORS, MOST_DEEP, MOST_FAMILIES, MOST_MAKERS, MOST_NAMES, MOST_PARTS)
from exactkinds.words import is_word

MOST_MAKER_PARTS = 2


def check_table(value):
    """Raise BadTable if any value is no table."""
    if not is_table(value):
        raise BadTable()


def is_table(value):
    """Return whether any value is a table."""
    if not is_row(value, 4) or value[0] != "table":
        return False
    if not _are_makers(value[1]) or not _are_families(value[2]) or not _are_constructors(value):
        return False
    words = words_of(value)
    return len(set(words)) == len(words)


def is_row(value, many):
    """Return whether any value is a tuple with so many items."""
    return isinstance(value, tuple) and len(value) == many


def is_integer(value):
    """Return whether any value is an integer; True and False are none."""
    return isinstance(value, int) and not isinstance(value, bool)


def _are_makers(value):
    if not isinstance(value, tuple) or not 1 <= len(value) <= MOST_MAKERS:
        return False
    for maker in value:
        if not _is_maker(maker):
            return False
    return 0 in [parts for _, parts in value]


def _is_maker(value):
    if not is_row(value, 2) or not is_word(value[0]):
        return False
    return is_integer(value[1]) and 0 <= value[1] <= MOST_MAKER_PARTS


def _are_families(value):
    if not isinstance(value, tuple) or not 1 <= len(value) <= MOST_FAMILIES:
        return False
    for word in value:
        if not is_word(word):
            return False
    return True


def _are_constructors(table):
    value = table[3]
    if not isinstance(value, tuple) or len(value) > MOST_CONSTRUCTORS:
        return False
    for constructor in value:
        if not _is_constructor(table, constructor):
            return False
    return True


def _is_constructor(table, value):
    if not is_row(value, 4) or not is_word(value[0]):
        return False
    _, parts, family, index = value
    if not isinstance(parts, tuple) or len(parts) > MOST_PARTS:
        return False
    for kind in (*parts, (family, index)):
        if not is_kind(table, kind):
            return False
    return _is_flat(index) and _are_names_told(parts, index)


def is_kind(table, value):
    """Return whether any value is a pair of a family and an index term, as tables and programs tell them.

    Of the table only the makers and families must be right.
    """
    if not is_row(value, 2) or value[0] not in table[2]:
        return False
    if not is_term(table[1], value[1]) or _is_deeper(value[1], MOST_DEEP):
        return False
    for name in names_of(value[1]):
        if not is_word(name):
            return False
    return True


def _is_deeper(term, most):
    """Return whether a term is deeper than so many; it is not gone through further down.

    A term that is nested 60 deep may have far too many places to go through them all.
    """
    if most == 0:
        return True
    if isinstance(term, str):
        return False
    for part in term[1:]:
        if _is_deeper(part, most - 1):
            return True
    return False


def _is_flat(index):
    if isinstance(index, str):
        return True
    for part in index[1:]:
        if not isinstance(part, str):
            return False
    return len(set(index[1:])) == len(index) - 1


def _are_names_told(parts, index):
    """Return whether the names of a constructor are not too many and all stand in its parts."""
    told = _names_in(parts)
    for name in names_of(index):
        if name not in told:
            return False
    return len(told) <= MOST_NAMES


def _names_in(kinds):
    """Return the list of the names in the terms of pairs of a family and a term, in the order of first places."""
    found = []
    for _, term in kinds:
        for name in names_of(term):
            if name not in found:
                found.append(name)
    return found


def made_names(constructor):
    """Return the list of the names in the index that a constructor makes, in order."""
    return names_of(constructor[3])


def hidden_names(constructor):
    """Return the list of the names of a constructor that its made index lacks, in the order of first places."""
    made = made_names(constructor)
    return [name for name in _names_in(constructor[1]) if name not in made]


def parts_of(table, maker):
    """Return the number of parts of the maker with a word."""
    return dict(table[1]).get(maker)


def constructor_of(table, word):
    """Return the constructor with a word, or None."""
    for constructor in table[3]:
        if constructor[0] == word:
            return constructor
    return None


def constructors_of(table, family):
    """Return the tuple of the constructors that make a family, in order."""
    return tuple([constructor for constructor in table[3] if constructor[2] == family])


def words_of(table):
    """Return the list of the words of all makers, families and constructors, in order."""
    makers = [maker[0] for maker in table[1]]
    constructors = [constructor[0] for constructor in table[3]]
    return makers + list(table[2]) + constructors
