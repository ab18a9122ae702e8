"""The verdict on a piece: a case in which it is told wrong, if there is one (points 902 and 903)."""

from exactkinds.fitting import Cases
from exactkinds.machine import making_of
from exactkinds.pieces import context, names_told, pieces_of, values_in
from exactkinds.solving import demand_wants, free_domains
from exactkinds.telling import Ending, heads_of
from exactkinds.views import View


class Judge:
    """What is asked of a program over and over again; making is made when the first values are asked for."""

    def __init__(self, table, machine, program):
        self.table = table
        self.program = program
        self.view = View(machine)
        self.heads = heads_of(table, program)
        self.making = None

    def pieces_in(self, function):
        """Return the list of the pieces of a function."""
        return pieces_of(self.view, self.table, function)

    def cases_of(self, function, piece, further):
        """Return the cases of a piece in which further wants hold, with the fault that is found of them, if any."""
        clause, skeleton = piece
        told = context(self.table, function, skeleton)
        wants = demand_wants(self.view, told[1]) + further
        cases = Cases(self.view, free_domains(self.view, names_told(told)), wants)
        # What is told of a clause presumes that there are cases.
        if clause == -1 or cases.first_context([]) is None:
            cases.spoil([], ())
        else:
            Ending(self.table, function, clause, skeleton, told).holds(self.heads, cases)
        return cases

    def is_right_at(self, function, piece, further):
        """Return whether a piece is told right in all cases in which further wants hold."""
        return self.cases_of(function, piece, further).fault is None

    def finding(self, function, piece):
        """Return values of a piece that are told wrong, or None if it is right."""
        case = self.cases_of(function, piece, []).wrong_case()
        if case is None:
            return None
        if self.making is None:
            self.making = making_of(self.table)
        _, skeleton = piece
        return values_in(self.making, context(self.table, function, skeleton), skeleton, case)

    def first_finding(self, function):
        """Return values of a function that are told wrong, or None if it is right."""
        for piece in self.pieces_in(function):
            found = self.finding(function, piece)
            if found is not None:
                return found
        return None

    def is_right(self, function):
        """Return whether a function is right."""
        for piece in self.pieces_in(function):
            if not self.is_right_at(function, piece, []):
                return False
        return True
