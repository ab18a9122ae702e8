"""The verdict on a piece: a case in which it is told wrong, if there is one (points 902 and 903)."""

from exactkinds.fitting import Cases
from exactkinds.machine import making_of
from exactkinds.pieces import context, names_told, pieces_of, values_in
from exactkinds.solving import demand_wants, free_domains
from exactkinds.telling import Ending, heads_of
from exactkinds.views import View


class Judge:
    """What is asked of a program over and over again; making is made when the first values are asked for."""

    def __init__(self, table, machine, program):
        self.table = table
        self.program = program
        self.view = View(machine)
        self.heads = heads_of(table, program)
        self.making = None

    def pieces_in(self, function):
        """Return the list of the pieces of a function."""
        return pieces_of(self.view, self.table, function)

    def wrong_case(self, function, piece, further):
        """Return a case of a piece in which it is told wrong and further wants hold, or None if there is none."""
        clause, skeleton = piece
        told = context(self.table, function, skeleton)
        wants = demand_wants(self.view, told[1]) + further
        cases = Cases(self.view, free_domains(self.view, names_told(told)), wants)
        if cases.first_context([]) is None:
            return None
        if clause == -1:
            return cases.first_case()
        Ending(self.table, function, clause, skeleton, told).holds(self.heads, cases)
        return cases.wrong

    def finding(self, function, piece):
        """Return values of a piece that are told wrong, or None if it is right."""
        case = self.wrong_case(function, piece, [])
        if case is None:
            return None
        if self.making is None:
            self.making = making_of(self.table)
        _, skeleton = piece
        return values_in(self.making, context(self.table, function, skeleton), skeleton, case)

    def first_finding(self, function):
        """Return values of a function that are told wrong, or None if it is right."""
        for piece in self.pieces_in(function):
            found = self.finding(function, piece)
            if found is not None:
                return found
        return None

    def is_right(self, function):
        """Return whether a function is right."""
        for piece in self.pieces_in(function):
            if self.wrong_case(function, piece, []) is not None:
                return False
        return True
