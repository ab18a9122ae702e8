"""Papers: that a program is let, or that it is not (points 1000 to 1004)."""

from exactkinds.checking import Checker
from exactkinds.judging import judged, told
from exactkinds.programs import function_of
from exactkinds.proving import Prover
from exactkinds.skeletons import first_skeleton
from exactkinds.tables import is_row
from exactkinds.upholding import is_model
from exactkinds.values import demanded, is_raw


def paper(table, machine, program):
    """Return a paper that is accepted."""
    verdict = judged(table, machine, program)
    if verdict[0] == "not":
        return verdict
    prover = Prover(table, machine, program)
    return ("let", machine, tuple([prover.tree(function) for function in program[1]]))


def accepts(table, program, paper):
    """Return whether any value is a paper that is right."""
    if not is_row(paper, 3):
        return False
    if paper[0] == "not":
        return _is_wrong(table, program, paper[1], paper[2])
    return paper[0] == "let" and _is_let(table, program, paper[1], paper[2])


def _is_wrong(table, program, word, values):
    """Return whether any two values are the word of a function and values of it that are told wrong."""
    function = function_of(program, word)
    if function is None or not is_row(values, len(function[1])):
        return False
    for value in values:
        if not is_raw(table, value):
            return False
    return demanded(table, function, values) is not None and told(table, program, word, values) is not None


def _is_let(table, program, machine, trees):
    """Return whether any two values are a model and right trees for all functions."""
    if not is_model(table, machine) or not is_row(trees, len(program[1])):
        return False
    checker = Checker(table, machine, program)
    for function, tree in zip(program[1], trees):
        if not checker.is_tree(function, first_skeleton(function), tree):
            return False
    return True
