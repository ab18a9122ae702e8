"""Changes of programs, and the states of indices for which functions are right (points 1100 to 1103)."""

from exactkinds.indices import fitted
from exactkinds.languages import vectors
from exactkinds.programs import calls_of, function_of, names_asked
from exactkinds.verdicts import Judge


def to_judge(elder, newer):
    """Return the tuple of the words of the functions of the newer program that must be judged again."""
    return tuple([function[0] for function in newer[1] if _is_changed(elder, newer, function)])


def _is_changed(elder, newer, function):
    if function_of(elder, function[0]) != function:
        return True
    for word in calls_of(newer, function[0]):
        before = function_of(elder, word)
        if before is None or _head_of(before) != _head_of(function_of(newer, word)):
            return True
    return False


def _head_of(function):
    return function[:5]


def right_behind(table, machine, elder, right, newer):
    """Return the tuple of the right functions of the newer program, given that of the elder one."""
    judge = Judge(table, machine, newer)
    again = to_judge(elder, newer)
    found = []
    for function in newer[1]:
        word = function[0]
        verdict = judge.is_right(function) if word in again else word in right
        if verdict:
            found.append(word)
    return tuple(found)


def region(table, machine, program, word):
    """Return the list of the pairs of a vector of a function and whether the function is right there, in order."""
    function = function_of(program, word)
    # Most pieces are right at all vectors.
    trials = Judge(table, machine, program).wrong_trials(function)
    terms = [fitted([term for _, term in function[1]], trial.told[0]) for trial in trials]
    rows = []
    for vector in vectors(machine, names_asked(function), list(function[1])):
        rows.append((vector, _is_right_at(trials, terms, vector)))
    return rows


def _is_right_at(trials, terms, vector):
    """Return whether no trial is told wrong for values whose trees are a case of the vector.

    The terms are, for each trial, those of the function's names.
    """
    for trial, told in zip(trials, terms):
        if not trial.is_right_at([(1 << state, told[name]) for name, state in vector.items()]):
            return False
    return True
