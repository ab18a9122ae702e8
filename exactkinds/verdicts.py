"""The verdict on a piece: a case in which it is told wrong, if there is one (points 902 and 903)."""

from exactkinds.fitting import Cases
from exactkinds.machine import making_of
from exactkinds.pieces import context, names_told, pieces_of, values_in
from exactkinds.solving import demand_wants, free_domains
from exactkinds.telling import Ending, heads_of
from exactkinds.views import View


class Judge:
    """What is asked of a program over and over again; making is made when the first values are asked for."""

    def __init__(self, table, machine, program):
        self.table = table
        self.program = program
        self.view = View(machine)
        self.heads = heads_of(table, program)
        self.making = None

    def pieces_in(self, function):
        """Return the list of the pieces of a function."""
        return pieces_of(self.view, self.table, function)

    def finding(self, function, piece):
        """Return values of a piece that are told wrong, or None if it is right."""
        trial = Trial(self, function, piece)
        case = trial.cases([]).wrong_case()
        if case is None:
            return None
        if self.making is None:
            self.making = making_of(self.table)
        return values_in(self.making, trial.told, trial.skeleton, case)

    def first_finding(self, function):
        """Return values of a function that are told wrong, or None if it is right."""
        for piece in self.pieces_in(function):
            found = self.finding(function, piece)
            if found is not None:
                return found
        return None

    def wrong_trials(self, function):
        """Return the list of the trials of those pieces of a function that are not right."""
        trials = [Trial(self, function, piece) for piece in self.pieces_in(function)]
        return [trial for trial in trials if not trial.is_right_at([])]

    def is_right(self, function):
        """Return whether a function is right."""
        for piece in self.pieces_in(function):
            if not Trial(self, function, piece).is_right_at([]):
                return False
        return True


class Trial:
    """A piece that is tried, perhaps for some of its values alone; told is the context of its skeleton."""

    def __init__(self, judge, function, piece):
        clause, self.skeleton = piece
        self.view = judge.view
        self.heads = judge.heads
        self.told = context(judge.table, function, self.skeleton)
        self.wants = demand_wants(judge.view, self.told[1])
        self.ending = None
        if clause >= 0:
            self.ending = Ending(judge.table, function, clause, self.skeleton, self.told)

    def cases(self, further):
        """Return the cases in which further wants hold, with a fault if the piece is told wrong in some."""
        cases = Cases(self.view, free_domains(self.view, names_told(self.told)), self.wants + further)
        # What is told of a clause presumes that there are cases.
        if self.ending is None or cases.first_context([]) is None:
            cases.spoil([], ())
        else:
            self.ending.holds(self.heads, cases)
        return cases

    def is_right_at(self, further):
        """Return whether the piece is told right in all cases in which further wants hold."""
        return self.cases(further).fault is None
