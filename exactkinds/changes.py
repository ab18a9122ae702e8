"""Changes of programs, and the states of indices for which functions are right (points 1100 to 1103)."""

from exactkinds.indices import fitted
from exactkinds.languages import vectors
from exactkinds.pieces import context
from exactkinds.programs import calls_of, function_of, names_asked
from exactkinds.verdicts import Judge


def to_judge(elder, newer):
    """Return the tuple of the words of the functions of the newer program that must be judged again."""
    return tuple([function[0] for function in newer[1] if _is_changed(elder, newer, function)])


def _is_changed(elder, newer, function):
    if function_of(elder, function[0]) != function:
        return True
    for word in calls_of(newer, function[0]):
        before = function_of(elder, word)
        if before is None or _head_of(before) != _head_of(function_of(newer, word)):
            return True
    return False


def _head_of(function):
    return function[:5]


def right_behind(table, machine, elder, right, newer):
    """Return the tuple of the right functions of the newer program, given that of the elder one."""
    judge = Judge(table, machine, newer)
    again = to_judge(elder, newer)
    found = []
    for function in newer[1]:
        word = function[0]
        verdict = judge.is_right(function) if word in again else word in right
        if verdict:
            found.append(word)
    return tuple(found)


def region(table, machine, program, word):
    """Return the list of the pairs of a vector of a function and whether the function is right there, in order."""
    judge = Judge(table, machine, program)
    function = function_of(program, word)
    # Most pieces are right at all vectors.
    wrong = [piece for piece in judge.pieces_in(function) if not judge.is_right_at(function, piece, [])]
    rows = []
    for vector in vectors(machine, names_asked(function), list(function[1])):
        rows.append((vector, _is_right_at(judge, function, wrong, vector)))
    return rows


def _is_right_at(judge, function, wrong, vector):
    """Return whether none of the pieces is told wrong for values whose trees are a case of the vector."""
    for piece in wrong:
        params, _ = context(judge.table, function, piece[1])
        terms = fitted([term for _, term in function[1]], params)
        further = [(1 << state, terms[name]) for name, state in vector.items()]
        if not judge.is_right_at(function, piece, further):
            return False
    return True
