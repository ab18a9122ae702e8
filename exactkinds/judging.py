"""Judging programs (points 900 to 904)."""

from exactkinds.indices import fitted, put
from exactkinds.programs import clause_for, function_of, taken
from exactkinds.telling import heads_of, told_body
from exactkinds.values import demanded, index_of
from exactkinds.verdicts import Judge, Trial


def told_index(table, program, word, clause, trees):
    """Return ("index", tree), or (fault, way), for the body of a clause with these trees for its names."""
    _, body = function_of(program, word)[5][clause]
    return told_body(heads_of(table, program), body, trees, fitted)


def told(table, program, word, values):
    """Return None if values with the indices that a function asks for are told right, otherwise (fault, way)."""
    function = function_of(program, word)
    clause = clause_for(function, values)
    if clause == -1:
        return ("hole", ())
    trees = {}
    for name, value in taken(function[5][clause][0], values).items():
        _, trees[name] = index_of(table, value)
    answer = told_index(table, program, word, clause, trees)
    if answer[0] != "index":
        return answer
    result = put(function[3], demanded(table, function, values))
    return None if answer[1] == result else ("result", ())


def finding(table, machine, program, word, piece):
    """Return None if a piece of a function is right, otherwise values of it that are told wrong."""
    return Judge(table, machine, program).finding(function_of(program, word), piece)


def right_at(table, machine, program, word, piece, vector):
    """Return whether a piece is told right for all values that belong to the cases of a vector."""
    trial = Trial(Judge(table, machine, program), function_of(program, word), piece)
    return trial.is_right_at([(1 << state, name) for name, state in vector.items()])


def findings(table, machine, program, word):
    """Return the list of the findings of the pieces of a function, in order."""
    judge = Judge(table, machine, program)
    function = function_of(program, word)
    return [judge.finding(function, piece) for piece in judge.pieces_in(function)]


def right_functions(table, machine, program):
    """Return the tuple of the words of the functions that are right, in order."""
    judge = Judge(table, machine, program)
    return tuple([function[0] for function in program[1] if judge.is_right(function)])


def judged(table, machine, program):
    """Return ("let",), or ("not", word, values) for the first function that is not right."""
    judge = Judge(table, machine, program)
    for function in program[1]:
        found = judge.first_finding(function)
        if found is not None:
            return ("not", function[0], found)
    return ("let",)
