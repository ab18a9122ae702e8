"""Runs, plain ones and such with looks (points 700 to 705)."""

from exactkinds.indices import put
from exactkinds.sharing import folded
from exactkinds.values import made_kind, trees_for


def plain(program, function, values, steps):
    """Return ("end", value), ("hole",) or ("long",) for a run that looks at no index."""
    return Run(program, steps).ended(function, [folded(value, lambda word, parts: Made(word, parts, None))
                                                for value in values])


def run(table, program, function, values, steps):
    """Return ("right", value), ("wrong", place) or ("long",) for a run with looks."""
    looking = LookingRun(table, program, steps)
    return looking.ended(function, [folded(value, looking.built) for value in values])


class Made:
    """A value in a run, with its parts; kind is its family and index, or None if they are not looked at."""

    def __init__(self, word, parts, kind):
        self.word = word
        self.parts = parts
        self.kind = kind
        self.value = (word, *[part.value for part in parts])


class Node:
    """A constructor or call in a body whose parts are being reckoned; done has the parts so far.

    Place is the function, the clause and the way of point 703.
    """

    def __init__(self, body, names, place):
        self.body = body
        self.names = names
        self.place = place
        self.done = []


class Call:
    """A call that was begun and waits for its result; trees are those of the look at its arguments."""

    def __init__(self, function, trees, place):
        self.function = function
        self.trees = trees
        self.place = place


class Run:
    """A plain run. What is open stands on a stack of its own, so that no run makes Python's calls go deep.

    Result is the value that was reckoned last, until it is taken, and outcome what the run ends with.
    """

    def __init__(self, program, steps):
        self.functions = {function[0]: function for function in program[1]}
        self.left = steps
        self.stack = []
        self.result = None
        self.outcome = None

    def ended(self, word, values):
        """Return what a call of a function with these values ends with."""
        self._begin(self.functions[word], values, (word, -1, ()))
        while self.outcome is None:
            if not self.stack:
                return (self.word_of_end(), self.result.value)
            if isinstance(self.stack[-1], Call):
                self._finish_call()
            else:
                self._go_on()
        return self.outcome

    def _go_on(self):
        """Go on with the node that was opened last."""
        node = self.stack[-1]
        if self.result is not None:
            node.done.append(self.result)
            self.result = None
        at = len(node.done)
        if at < len(node.body) - 1:
            word, clause, way = node.place
            self._enter(node.body[at + 1], node.names, (word, clause, (*way, at)))
            return
        self.stack.pop()
        word = node.body[0]
        if word in self.functions:
            self._begin(self.functions[word], node.done, node.place)
        else:
            self._make(word, node.done, node.place)

    def _enter(self, body, names, place):
        """Begin to reckon a body."""
        if isinstance(body, str):
            self.result = names[body]
        else:
            self.stack.append(Node(body, names, place))

    def _make(self, word, parts, place):
        made = self.built(word, parts)
        if self.has_index(made):
            if self._take_step():
                self.result = made
        else:
            self.outcome = ("wrong", ("make", *place))

    def _begin(self, function, values, place):
        trees = self.trees_asked(function, values)
        if trees is None:
            self.outcome = ("wrong", ("demand", *place))
            return
        if not self._take_step():
            return
        for clause, (patterns, body) in enumerate(function[5]):
            names = _names_taken(patterns, values)
            if names is not None:
                self.stack.append(Call(function, trees, place))
                self._enter(body, names, (function[0], clause, ()))
                return
        self.outcome = self.hole_at(place)

    def _finish_call(self):
        call = self.stack.pop()
        if not self.is_told(call, self.result):
            self.outcome = ("wrong", ("result", *call.place))

    def _take_step(self):
        """Take a step if one is left; return whether there was one."""
        if self.left <= 0:
            self.outcome = ("long",)
            return False
        self.left -= 1
        return True

    def word_of_end(self):
        """Return the word for a run that came to its end."""
        return "end"

    def hole_at(self, place):
        """Return what the run ends with if no clause takes the values of the call at a place."""
        return ("hole",)

    def built(self, word, parts):
        """Return what a constructor makes."""
        return Made(word, parts, None)

    def has_index(self, made):
        """Return whether the look at what was made does not fail."""
        return True

    def trees_asked(self, function, values):
        """Return the trees for the names of a function, or None if the look at the values of a call fails."""
        return {}

    def is_told(self, call, result):
        """Return whether the look at the result of a call does not fail."""
        return True


class LookingRun(Run):
    """A run with looks."""

    def __init__(self, table, program, steps):
        Run.__init__(self, program, steps)
        self.constructors = {constructor[0]: constructor for constructor in table[3]}

    def word_of_end(self):
        """Return the word for a run that came to its end."""
        return "right"

    def hole_at(self, place):
        """Return what the run ends with if no clause takes the values of the call at a place."""
        return ("wrong", ("hole", *place))

    def built(self, word, parts):
        """Return what a constructor makes, with its family and index."""
        return Made(word, parts, made_kind(self.constructors[word], [part.kind for part in parts]))

    def has_index(self, made):
        """Return whether the look at what was made does not fail."""
        return made.kind is not None

    def trees_asked(self, function, values):
        """Return the trees for the names of a function, or None if the look at the values of a call fails."""
        return trees_for(function[1], [value.kind for value in values])

    def is_told(self, call, result):
        """Return whether the look at the result of a call does not fail."""
        _, _, family, index, _, _ = call.function
        return result.kind == (family, put(index, call.trees))


def _names_taken(patterns, values):
    """Return the dict from names to what they stand for if the patterns fit, otherwise None."""
    found = {}
    for pattern, value in zip(patterns, values):
        if not _takes(pattern, value, found):
            return None
    return found


def _takes(pattern, value, found):
    if isinstance(pattern, str):
        found[pattern] = value
        return True
    if pattern[0] != value.word:
        return False
    for inner, part in zip(pattern[1:], value.parts):
        if not _takes(inner, part, found):
            return False
    return True
