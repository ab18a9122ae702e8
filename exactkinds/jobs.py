"""Jobs: texts with questions, and their answers (points 1200 to 1202)."""

from exactkinds.errors import BadJob
from exactkinds.indices import is_tree
from exactkinds.machine import holding, machine_of, state_of
from exactkinds.programs import check_program, function_of
from exactkinds.reading import read_job
from exactkinds.runs import run
from exactkinds.tables import check_table
from exactkinds.values import index_of, is_raw
from exactkinds.verdicts import Judge
from exactkinds.writing import kind_text, tree_text


def answers(text):
    """Return the list of the answers to the questions of a job, in order."""
    table, program, questions = read_job(text)
    check_table(table)
    check_program(table, program)
    for question in questions:
        _check_question(table, program, question)
    job = Job(table, program)
    return [job.answer(question) for question in questions]


def _check_question(table, program, question):
    """Raise BadJob for a question that cannot be answered."""
    if question.word in ("right", "never", "run"):
        function = function_of(program, question.name)
        if function is None:
            raise BadJob()
        if question.word == "run" and len(question.trees) != len(function[1]):
            raise BadJob()
    if question.word == "holds" and question.name not in table[2]:
        raise BadJob()
    for tree in question.trees:
        right = is_tree(table[1], tree) if question.word == "holds" else is_raw(table, tree)
        if not right:
            raise BadJob()


class Job:
    """The table and the program of a job; right and never have what was found out of its functions so far."""

    def __init__(self, table, program):
        self.table = table
        self.program = program
        self.machine = machine_of(table)
        self.judge = Judge(table, self.machine, program)
        self.right = {}
        self.never = {}

    def answer(self, question):
        """Return the answer to a question, a text."""
        if question.word == "let":
            return self._let_answer()
        if question.word == "right":
            return "yes" if self._is_right(function_of(self.program, question.name)) else "no"
        if question.word == "never":
            return self._never_answer(question.name)
        if question.word == "holds":
            state = state_of(self.machine, question.trees[0])
            return "yes" if question.name in holding(self.machine, state) else "no"
        if question.word == "index":
            return self._index_answer(question.trees[0])
        return self._run_answer(question)

    def _is_right(self, function):
        if function[0] not in self.right:
            self.right[function[0]] = self.judge.is_right(function)
        return self.right[function[0]]

    def _let_answer(self):
        for function in self.program[1]:
            if not self._is_right(function):
                return f"not {function[0]}"
        return "let"

    def _never_answer(self, word):
        if word not in self.never:
            function = function_of(self.program, word)
            reached = [clause for clause, _ in self.judge.pieces_in(function)]
            never = [str(clause) for clause in range(len(function[5])) if clause not in reached]
            self.never[word] = " ".join(never) if never else "none"
        return self.never[word]

    def _index_answer(self, value):
        kind = index_of(self.table, value)
        if kind is None:
            return "none"
        family, index = kind
        return kind_text(family, index)

    def _run_answer(self, question):
        outcome = run(self.table, self.program, question.name, question.trees, question.steps)
        if outcome[0] == "right":
            return f"right {tree_text(outcome[1])}"
        if outcome[0] == "long":
            return "long"
        word, function, clause, way = outcome[1]
        return " ".join(["wrong", word, function, str(clause), *[str(place) for place in way]])
