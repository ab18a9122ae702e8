"""Told indices (point 900), of trees and of terms."""

from exactkinds.indices import fitted, put
from exactkinds.skeletons import shapes_of
from exactkinds.tables import constructor_of


def heads_of(table, program):
    """Return the dict from the words of constructors and functions to what is asked of the indices of their parts.

    That is the word for the fault, the list of the terms for the parts, and the index of the whole.
    """
    heads = {}
    for word, kinds, _, index in table[3]:
        heads[word] = ("make", [term for _, term in kinds], index)
    for word, kinds, _, index, _, _ in program[1]:
        heads[word] = ("demand", [term for _, term in kinds], index)
    return heads


def told_body(heads, body, terms, fit):
    """Return ("index", term), or (fault, way), for a body with these terms for its names.

    Fit is called with patterns and terms, and gives what the names of the patterns stand for, or None.
    """
    return _told(heads, body, terms, fit, ())


def _told(heads, body, terms, fit, way):
    if isinstance(body, str):
        return ("index", terms[body])
    parts = []
    for at, part in enumerate(body[1:]):
        answer = _told(heads, part, terms, fit, (*way, at))
        if answer[0] != "index":
            return answer
        parts.append(answer[1])
    fault, patterns, index = heads[body[0]]
    found = fit(patterns, parts)
    return (fault, way) if found is None else ("index", put(index, found))


class Ending:
    """The body of a clause that fits a skeleton, with the terms for its names, and the told index of the result."""

    def __init__(self, table, function, clause, skeleton, told):
        params, places = told
        patterns, self.body = function[5][clause]
        self.terms = {}
        for name, shape in shapes_of(patterns, skeleton).items():
            self.terms[name] = _index_in(table, shape, places)
        self.result = put(function[3], fitted([term for _, term in function[1]], params))

    def holds(self, heads, cases):
        """Return whether the told index of the body is that of the result, in the way of these cases."""
        answer = told_body(heads, self.body, self.terms, cases.fit)
        return answer[0] == "index" and cases.same(self.result, answer[1])


def _index_in(table, shape, places):
    """Return the index of what stands in a skeleton with these places."""
    if isinstance(shape, str):
        return places[int(shape[1:])][1]
    _, kinds, _, index = constructor_of(table, shape[0])
    parts = []
    for part in shape[1:]:
        parts.append(_index_in(table, part, places))
    return put(index, fitted([term for _, term in kinds], parts))
