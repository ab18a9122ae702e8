"""Checking the trees and cases of a LET paper (points 1002 and 1003)."""

from exactkinds.pieces import context
from exactkinds.sheets import Sheet
from exactkinds.skeletons import kinds_in, next_step, split_at
from exactkinds.tables import is_integer, is_row
from exactkinds.telling import Ending, heads_of
from exactkinds.views import View


class Checker:
    """The checker of the trees of a program with a machine that is a model."""

    def __init__(self, table, machine, program):
        self.table = table
        self.view = View(machine)
        self.heads = heads_of(table, program)
        self.into = [[] for _ in machine[1]]
        for maker, parts, state in machine[2]:
            self.into[state].append((maker, parts))

    def is_tree(self, function, skeleton, value):
        """Return whether any value is a tree that is right for a skeleton of a function."""
        if is_row(value, 3) and value[0] == "split":
            return self._is_split(function, skeleton, value)
        told = context(self.table, function, skeleton)
        if is_row(value, 1) and value[0] == "clash":
            return told is None
        if told is None:
            return False
        if is_row(value, 2) and value[0] == "dead":
            return self._are_cases(Sheet(self.view, told), value[1], None)
        if is_row(value, 3) and value[0] == "body" and _is_first(function, skeleton, value[1]):
            ending = Ending(self.table, function, value[1], skeleton, told)
            return self._are_cases(Sheet(self.view, told), value[2], ending)
        return False

    def _is_split(self, function, skeleton, value):
        _, at, trees = value
        if not is_integer(at) or not 0 <= at < len(kinds_in(self.table, function, skeleton)):
            return False
        inner = split_at(self.table, function, skeleton, at)
        if not is_row(trees, len(inner)):
            return False
        for one, tree in zip(inner, trees):
            if not self.is_tree(function, one, tree):
                return False
        return True

    def _are_cases(self, sheet, value, ending):
        """Return whether any value are cases that are right; there is no ending for what is dead."""
        if is_row(value, 1) and value[0] == "end":
            return ending is not None and ending.holds(self.heads, sheet)
        if is_row(value, 2) and value[0] == "never":
            return is_integer(value[1]) and 0 <= value[1] < len(sheet.places) and sheet.is_never(value[1])
        if not is_row(value, 3) or not isinstance(value[1], str):
            return False
        if value[0] == "states":
            return self._are_states(sheet, value[1], value[2], ending)
        return value[0] == "steps" and self._are_steps(sheet, value[1], value[2], ending)

    def _are_states(self, sheet, name, rows, ending):
        if not sheet.is_free(name) or not is_row(rows, len(self.view.states)):
            return False
        for state, inner in enumerate(rows):
            sheet.give_state(name, state)
            if not self._are_cases(sheet, inner, ending):
                return False
        sheet.take_state(name)
        return True

    def _are_steps(self, sheet, name, rows, ending):
        if not sheet.is_closed(name):
            return False
        steps = self.into[sheet.states[name]]
        if not is_row(rows, len(steps)):
            return False
        for (maker, states), inner in zip(steps, rows):
            sheet.give_term(name, maker, states)
            if not self._are_cases(sheet, inner, ending):
                return False
            sheet.take_term(name)
        return True


def _is_first(function, skeleton, clause):
    """Return whether any value is the place of a clause that fits a skeleton while all before it clash."""
    return is_integer(clause) and clause >= 0 and next_step(function, skeleton) == (clause, None)
