"""Programs (points 600 to 605) and the clauses that take values (point 701)."""

from exactkinds.errors import BadProgram
from exactkinds.indices import names_of
from exactkinds.limits import MOST_BODY, MOST_CLAUSES, MOST_FUNCTIONS, MOST_NAMES, MOST_PARTS, MOST_PATTERN
from exactkinds.tables import constructor_of, is_integer, is_kind, is_row, words_of
from exactkinds.words import is_word


def check_program(table, value):
    """Raise BadProgram if any value is no well made program over a table."""
    if not is_program(table, value):
        raise BadProgram()


def is_program(table, value):
    """Return whether any value is a well made program over a table."""
    if not is_row(value, 2) or value[0] != "program":
        return False
    if not isinstance(value[1], tuple) or len(value[1]) > MOST_FUNCTIONS:
        return False
    for function in value[1]:
        if not _is_headed(table, function):
            return False
    words = words_of(table) + [function[0] for function in value[1]]
    if len(set(words)) != len(words):
        return False
    for function in value[1]:
        for clause in function[5]:
            if not _is_clause(table, value, function, clause):
                return False
    return _is_falling(value)


def _is_headed(table, value):
    """Return whether any value is a function, whatever its clauses are."""
    if not is_row(value, 6) or not is_word(value[0]):
        return False
    _, params, family, index, falls, clauses = value
    if not isinstance(params, tuple) or not 1 <= len(params) <= MOST_PARTS:
        return False
    for kind in (*params, (family, index)):
        if not is_kind(table, kind):
            return False
    if not is_integer(falls) or not 0 <= falls < len(params):
        return False
    if not isinstance(clauses, tuple) or len(clauses) > MOST_CLAUSES:
        return False
    names = names_asked(value)
    return len(names) <= MOST_NAMES and False not in [name in names for name in names_of(index)]


def names_asked(function):
    """Return the list of the index names of a function, in the order of their first places."""
    found = []
    for _, term in function[1]:
        found.extend([name for name in names_of(term) if name not in found])
    return found


class Scope:
    """The families of the names of a clause; left is how many constructors and calls may still come."""

    def __init__(self, table, program):
        self.table = table
        self.program = program
        self.families = {}
        self.left = 0

    def take_pattern(self, pattern, family):
        """Take the names of any value; return whether it is a pattern that may stand at the family."""
        if isinstance(pattern, str):
            return self._take_name(pattern, family)
        if not isinstance(pattern, tuple) or not pattern:
            return False
        constructor = constructor_of(self.table, pattern[0])
        if constructor is None or constructor[2] != family:
            return False
        return self._are_parts(pattern, constructor[1], self.take_pattern)

    def _take_name(self, name, family):
        if not is_word(name) or name in self.families:
            return False
        if constructor_of(self.table, name) is not None or function_of(self.program, name) is not None:
            return False
        self.families[name] = family
        return True

    def has_body(self, body, family):
        """Return whether any value is a body of the family with these names."""
        if isinstance(body, str):
            return self.families.get(body) == family
        if not isinstance(body, tuple) or not body:
            return False
        constructor = constructor_of(self.table, body[0])
        function = function_of(self.program, body[0])
        if constructor is not None:
            return constructor[2] == family and self._are_parts(body, constructor[1], self.has_body)
        return function is not None and function[2] == family and self._are_parts(body, function[1], self.has_body)

    def _are_parts(self, tree, kinds, test):
        """Return whether a tuple has so many parts that pass the test at the families of the kinds."""
        # Counted on the way: a value that is nested 60 deep may have far too many places to go through them all.
        self.left -= 1
        if self.left < 0 or len(tree) != len(kinds) + 1:
            return False
        for part, (family, _) in zip(tree[1:], kinds):
            if not test(part, family):
                return False
        return True


def _is_clause(table, program, function, value):
    if not is_row(value, 2):
        return False
    patterns, body = value
    if not is_row(patterns, len(function[1])):
        return False
    scope = Scope(table, program)
    scope.left = MOST_PATTERN
    for pattern, (family, _) in zip(patterns, function[1]):
        if not scope.take_pattern(pattern, family):
            return False
    scope.left = MOST_BODY
    return scope.has_body(body, function[2])


def _is_falling(program):
    """Return whether the calls inside of all groups fall."""
    for function in program[1]:
        group = group_of(program, function[0])
        for patterns, body in function[5]:
            if not _are_calls_falling(program, group, patterns[function[4]], body):
                return False
    return True


def _are_calls_falling(program, group, pattern, body):
    """Return whether all calls of the group in a body fall; the pattern is the one at which its function falls."""
    below = names_in(pattern) if isinstance(pattern, tuple) else ()
    for call in _nodes_of(body):
        if call[0] in group:
            if call[function_of(program, call[0])[4] + 1] not in below:
                return False
    return True


def _nodes_of(body):
    """Return the list of the constructors and calls in a body, each with its parts."""
    found = []
    todo = [body]
    while todo:
        here = todo.pop()
        if isinstance(here, tuple):
            found.append(here)
            todo.extend(here[1:])
    return found


def function_of(program, word):
    """Return the function with a word, or None."""
    for function in program[1]:
        if function[0] == word:
            return function
    return None


def calls_of(program, word):
    """Return the tuple of the words of the functions that a function calls, ascending."""
    words = [function[0] for function in program[1]]
    found = {}
    for _, body in function_of(program, word)[5]:
        for node in _nodes_of(body):
            if node[0] in words:
                found[node[0]] = True
    return tuple(sorted(found))


def group_of(program, word):
    """Return the tuple of the words of the functions in the group of a function, ascending."""
    reached = {function[0]: _reached_from(program, function[0]) for function in program[1]}
    group = [other for other in reached if other == word or (other in reached[word] and word in reached[other])]
    return tuple(sorted(group))


def _reached_from(program, word):
    """Return the list of the words of the functions that a function calls, directly or through others."""
    found = list(calls_of(program, word))
    # The list grows behind the place that is looked at, until no call leads to a further function.
    at = 0
    while at < len(found):
        found.extend([other for other in calls_of(program, found[at]) if other not in found])
        at += 1
    return found


def names_in(pattern):
    """Return the tuple of the names of a pattern, from left to right."""
    return tuple(names_of(pattern))


def taken(patterns, values):
    """Return the dict from names to raw values if the patterns fit the values, otherwise None."""
    found = {}
    for pattern, value in zip(patterns, values):
        if not _takes(pattern, value, found):
            return None
    return found


def _takes(pattern, value, found):
    if isinstance(pattern, str):
        found[pattern] = value
        return True
    if pattern[0] != value[0]:
        return False
    for inner, part in zip(pattern[1:], value[1:]):
        if not _takes(inner, part, found):
            return False
    return True


def clause_for(function, values):
    """Return the place of the first clause whose patterns fit the values, or -1."""
    for place, (patterns, _) in enumerate(function[5]):
        if taken(patterns, values) is not None:
            return place
    return -1
