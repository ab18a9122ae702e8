"""Points 500 to 507: contexts, terms that are always equal, patterns that always fit, and vectors."""

import copy
import itertools
import random
import unittest

from exactkinds.indices import names_of
from exactkinds.languages import fits, least_case, opened, parted, state_in, vectors
from exactkinds.machine import into, least, machine_of, second, state_of
from tests.samples import (
    ALONE, BALANCED, BARE, CROSSED, DOUBLING, EVEN_ODD, GREAT, HIDDEN_FOUR, LATE, PARITY, PLAIN, SIX, SMALL, SWAPPED,
    THREE, ZERO, chain, filled, fit, nested, nx, pair, random_table, random_term, random_tree, trees_by_hand)

TURNS = machine_of(EVEN_ODD)
NOUGHT_ONE = machine_of(ALONE)
# State 0 is Bal, with the tree zero alone; state 1 has both, and all other trees.
BALANCES = machine_of(BALANCED)


def shared(deep):
    """A tree over DOUBLING with few tuples and very many places."""
    return nested(deep, ZERO, lambda one: pair(one, one))


def first_trees(machine, makers, many, most=6):
    """For each state a list of some of its trees: the least and the second, and small ones."""
    rows = [[] for _ in machine[1]]
    for tree in trees_by_hand(makers, most):
        rows[state_of(machine, tree)].append(tree)
    for state, row in enumerate(rows):
        row.extend(tree for tree in (least(machine, state), second(machine, state)) if tree and tree not in row)
    return [row[:many] for row in rows]


def cases_of(rows, told):
    """All cases of a context with these trees for the states."""
    names = list(told)
    for trees in itertools.product(*(rows[told[name]] for name in names)):
        yield dict(zip(names, trees))


def is_case(machine, told, case):
    return set(case) == set(told) and all(state_of(machine, case[name]) == told[name] for name in told)


def fit_all(patterns, trees):
    found = {}
    return found if all([fit(pattern, tree, found) for pattern, tree in zip(patterns, trees)]) else None


class Parting(unittest.TestCase):

    def tells(self, machine, told, one, other, case):
        given = copy.deepcopy((machine, told, one, other))
        self.assertEqual(parted(machine, told, one, other), case)
        self.assertEqual(parted(machine, told, other, one), case)
        self.assertEqual((machine, told, one, other), given)

    def test_one_name(self):
        self.tells(TURNS, {"a": 0}, "a", "a", None)
        self.tells(TURNS, {"a": 1, "b": 0}, nx(nx("a")), nx(nx("a")), None)

    def test_single_states(self):
        self.tells(NOUGHT_ONE, {"a": 1, "b": 1}, "a", "b", None)
        self.tells(NOUGHT_ONE, {"a": 0, "b": 1}, nx("a"), "b", None)
        self.tells(NOUGHT_ONE, {"a": 0, "b": 1}, "a", ZERO, None)
        self.tells(NOUGHT_ONE, {"a": 0, "b": 1}, "b", chain(1), None)
        self.tells(NOUGHT_ONE, {"a": 0, "b": 1}, nx("a"), nx(ZERO), None)
        self.tells(NOUGHT_ONE, {"a": 0, "b": 1}, "a", "b", {"a": ZERO, "b": chain(1)})
        self.tells(BALANCES, {"a": 0, "b": 1}, nx("a"), "b", {"a": ZERO, "b": chain(2)})
        self.tells(BALANCES, {"a": 0, "b": 0, "c": 1}, nx(nx("a")), nx(nx("b")), None)

    def test_state_that_is_not_single(self):
        self.tells(TURNS, {"a": 0, "b": 0}, "a", "b", {"a": chain(2), "b": ZERO})
        self.tells(TURNS, {"b": 0, "a": 0, "c": 1}, nx("b"), nx("a"), {"a": chain(2), "b": ZERO, "c": chain(1)})
        self.tells(NOUGHT_ONE, {"a": 2, "b": 2}, "a", "b", {"a": chain(3), "b": chain(2)})

    def test_names_in_the_order_of_strings(self):
        # 10 stands before 9, and capitals before small letters.
        self.tells(TURNS, {"n9": 0, "n10": 0}, "n9", "n10", {"n10": chain(2), "n9": ZERO})
        self.tells(TURNS, {"a": 1, "B": 1}, "a", "B", {"B": chain(3), "a": chain(1)})
        # The first name has no second tree, and the second one parts nothing.
        machine = machine_of(LATE)
        self.tells(machine, {"a": 0, "b": 1, "c": 2, "d": 2}, "c", "d",
                   {"a": ZERO, "b": chain(1), "c": chain(4), "d": chain(2)})

    def test_name_and_term_with_it(self):
        self.tells(machine_of(PLAIN), {"a": 0}, "a", nx("a"), {"a": ZERO})
        self.tells(BALANCES, {"a": 1}, "a", nx("a"), {"a": chain(1)})
        self.tells(BALANCES, {"a": 0}, "a", nx("a"), {"a": ZERO})
        self.tells(BALANCES, {"a": 1, "b": 0}, nx(nx("b")), "a", {"a": chain(1), "b": ZERO})

    def test_name_and_term_with_another(self):
        # With the least trees next(b) is a.
        self.tells(BALANCES, {"a": 1, "b": 1}, nx("b"), "a", {"a": chain(1), "b": chain(1)})
        self.tells(machine_of(PLAIN), {"a": 0, "b": 0}, "a", nx("b"), {"a": ZERO, "b": ZERO})
        self.tells(BALANCES, {"a": 1, "b": 0}, "a", nx("b"), {"a": chain(2), "b": ZERO})

    def test_different_makers(self):
        self.tells(TURNS, {"a": 0}, ZERO, nx("a"), {"a": ZERO})
        self.tells(TURNS, {}, ZERO, chain(2), {})
        self.tells(TURNS, {}, chain(2), chain(2), None)

    def test_deep_place_alone(self):
        machine = machine_of(PLAIN)
        deep = pair(pair("a", "b"), pair(pair("c", nx("a")), ZERO))
        other = pair(pair("a", "b"), pair(pair("c", nx("c")), ZERO))
        self.tells(machine, {"a": 0, "b": 1, "c": 0}, deep, deep, None)
        self.tells(machine, {"a": 0, "b": 1, "c": 0}, deep, other,
                   {"a": chain(1), "b": pair(ZERO, ZERO), "c": ZERO})
        self.tells(machine, {"a": 0, "b": 1, "c": 0}, nested(100, "a", nx), nested(100, "c", nx),
                   {"a": chain(1), "b": pair(ZERO, ZERO), "c": ZERO})

    def test_least_case_does_not_part_and_the_first_names_do_not_either(self):
        machine = machine_of(DOUBLING)
        self.tells(machine, {"a": 1, "x": 0, "y": 0}, pair("a", "x"), pair("a", "y"),
                   {"a": shared(1), "x": shared(4), "y": ZERO})

    def test_as_the_words_say(self):
        rng = random.Random(501)
        none = some = second_ones = 0
        for table in list(SMALL) + [random_table(rng, 10, lambda one: len(machine_of(one)[1])) for _ in range(30)]:
            machine = machine_of(table)
            rows = first_trees(machine, table[1], 3)
            for _ in range(15):
                told = {name: rng.randrange(len(machine[1])) for name in "dbca"[:rng.randint(1, 4)]}
                one, other = (random_term(rng, table[1], list(told), rng.randint(1, 3)) for _ in range(2))
                if rng.random() < 0.3:
                    other = one
                if rng.random() < 0.3:
                    one = filled(one, {name: rng.choice([name, least(machine, told[name])]) for name in told})
                case = parted(machine, told, one, other)
                self.assertEqual(case, parted(machine, told, other, one))
                if case is None:
                    none += 1
                    for each in itertools.islice(cases_of(rows, told), 30):
                        self.assertEqual(filled(one, each), filled(other, each))
                    continue
                some += 1
                start = {name: least(machine, state) for name, state in told.items()}
                expected = start
                if filled(one, start) == filled(other, start):
                    second_ones += 1
                    tried = [{**start, name: second(machine, told[name])} for name in sorted(told)
                             if second(machine, told[name])]
                    expected = next(each for each in tried if filled(one, each) != filled(other, each))
                self.assertEqual(case, expected)
        self.assertGreater(min(none, some, second_ones), 20)


class Contexts(unittest.TestCase):

    def test_state_in(self):
        self.assertEqual(state_in(TURNS, {"n": 1}, "n"), 1)
        self.assertEqual(state_in(TURNS, {"n": 1}, nx(nx(nx("n")))), 0)
        self.assertEqual(state_in(TURNS, {}, chain(3)), 1)
        self.assertEqual(state_in(machine_of(SWAPPED), {"m": 1, "n": 0}, pair("m", "n")), 1)
        self.assertEqual(state_in(machine_of(SWAPPED), {"m": 1, "n": 0}, pair("n", "m")), 2)
        self.assertEqual(state_in(TURNS, {"n": 0}, nested(190, "n", nx)), 0)

    def test_state_in_is_the_state_in_all_cases(self):
        rng = random.Random(500)
        for table in SMALL:
            machine = machine_of(table)
            rows = first_trees(machine, table[1], 3)
            for _ in range(10):
                told = {name: rng.randrange(len(machine[1])) for name in "abc"}
                term = random_term(rng, table[1], list(told), 4)
                for case in itertools.islice(cases_of(rows, told), 12):
                    self.assertEqual(state_of(machine, filled(term, case)), state_in(machine, told, term))

    def test_least_case(self):
        told = {"b": 1, "a": 0, "c": 1}
        self.assertEqual(least_case(TURNS, told), {"a": ZERO, "b": chain(1), "c": chain(1)})
        self.assertEqual(told, {"b": 1, "a": 0, "c": 1})
        self.assertEqual(least_case(TURNS, {}), {})
        for table in SMALL + (GREAT,):
            machine = machine_of(table)
            told = {f"n{state}": state for state in range(len(machine[1]))}
            self.assertEqual(least_case(machine, told), {name: least(machine, told[name]) for name in told})


class Opening(unittest.TestCase):

    def test_order_of_the_steps(self):
        machine = machine_of(SWAPPED)
        told = {"x": 2, "y": 1}
        rows = opened(machine, told, "x")
        self.assertEqual([term[0] for term, _ in rows], ["pair"] * 8 + ["next"] * 2)
        self.assertEqual(rows[0], (("pair", "x.1", "x.2"), {"y": 1, "x.1": 0, "x.2": 0}))
        self.assertEqual(rows[-1], (("next", "x.1"), {"y": 1, "x.1": 2}))
        self.assertEqual(opened(machine, told, "y"), [
            (("pair", "y.1", "y.2"), {"x": 2, "y.1": 1, "y.2": 0}), (("a",), {"x": 2})])
        self.assertEqual(told, {"x": 2, "y": 1})

    def test_single_name(self):
        self.assertEqual(opened(NOUGHT_ONE, {"n": 0}, "n"), [(ZERO, {})])
        self.assertEqual(opened(NOUGHT_ONE, {"n": 1}, "n"), [(nx("n.1"), {"n.1": 0})])
        self.assertEqual(opened(TURNS, {"n": 0}, "n"), [(ZERO, {}), (nx("n.1"), {"n.1": 1})])

    def test_name_that_was_opened_before(self):
        self.assertEqual(opened(TURNS, {"n.1": 1, "m": 0}, "n.1"), [(nx("n.1.1"), {"m": 0, "n.1.1": 0})])
        self.assertEqual(opened(machine_of(BARE), {"n.2.1": 0}, "n.2.1"), [
            (ZERO, {}), (nx("n.2.1.1"), {"n.2.1.1": 0}),
            (pair("n.2.1.1", "n.2.1.2"), {"n.2.1.1": 0, "n.2.1.2": 0})])

    def test_all_tables(self):
        for table in SMALL + (GREAT,):
            machine = machine_of(table)
            for state in range(len(machine[1])):
                rows = opened(machine, {"n": state, "m": 0}, "n")
                self.assertEqual([(term[0], tuple(inner[part] for part in term[1:])) for term, inner in rows],
                                 into(machine, state))
                for term, inner in rows:
                    parts = tuple(f"n.{at}" for at in range(1, len(term)))
                    self.assertEqual(term[1:], parts)
                    self.assertEqual(set(inner), {"m", *parts})
                    self.assertEqual(inner["m"], 0)


class Fitting(unittest.TestCase):

    def check(self, machine, rows, told, patterns, terms):
        """Check what fits says; return its first word."""
        given = copy.deepcopy((machine, told, patterns, terms))
        answer = fits(machine, told, patterns, terms)
        self.assertEqual((machine, told, patterns, terms), given)
        self.assertIsInstance(answer, tuple)
        if answer[0] == "not":
            _, case = answer
            self.assertTrue(is_case(machine, told, case))
            self.assertIsNone(fit_all(patterns, [filled(term, case) for term in terms]))
            return "not"
        word, told_rows = answer
        self.assertEqual(word, "always")
        self.assertIsInstance(told_rows, list)
        for inner, terms_of, found in told_rows:
            self.assertEqual(set(terms_of), set(told))
            self.assertEqual(set(found), {name for pattern in patterns for name in names_of(pattern)})
            for name in told:
                self.assertEqual(state_in(machine, inner, terms_of[name]), told[name])
            for term in list(terms_of.values()) + list(found.values()):
                self.assertLessEqual(set(names_of(term)), set(inner))
        for case in itertools.islice(cases_of(rows, told), 60):
            fitting = fit_all(patterns, [filled(term, case) for term in terms])
            self.assertIsNotNone(fitting)
            count = 0
            for inner, terms_of, found in told_rows:
                # The case of the row's context that gives this case, if there is one.
                back = fit_all([terms_of[name] for name in told], [case[name] for name in told])
                if back is not None and is_case(machine, inner, back):
                    count += 1
                    self.assertEqual({name: filled(term, back) for name, term in found.items()}, fitting)
            self.assertEqual(count, 1)
        return "always"

    def says(self, word, table, told, patterns, terms):
        machine = machine_of(table)
        self.assertEqual(self.check(machine, first_trees(machine, table[1], 4), told, patterns, terms), word)

    def test_examples(self):
        self.assertEqual(fits(TURNS, {"n": 1}, [nx("a")], ["n"]),
                         ("always", [({"n.1": 0}, {"n": nx("n.1")}, {"a": "n.1"})]))
        self.assertEqual(fits(TURNS, {"n": 0}, [nx("a")], ["n"]), ("not", {"n": ZERO}))

    def test_no_patterns(self):
        self.assertEqual(fits(TURNS, {}, [], []), ("always", [({}, {}, {})]))
        self.says("always", EVEN_ODD, {"n": 1, "m": 0}, [], [])

    def test_names_alone(self):
        self.says("always", EVEN_ODD, {"n": 1}, ["a"], ["n"])
        self.says("always", EVEN_ODD, {"n": 1}, ["a", "b"], [nx("n"), "n"])

    def test_makers_that_are_there(self):
        self.says("always", EVEN_ODD, {"n": 0}, [nx("a")], [nx("n")])
        self.says("always", EVEN_ODD, {"n": 0}, [nx(nx("a"))], [nx(nx(nx("n")))])
        self.says("not", EVEN_ODD, {"n": 0}, [ZERO], [nx("n")])
        self.says("not", EVEN_ODD, {"n": 0}, [nx("a")], [ZERO])
        self.says("not", EVEN_ODD, {}, [nx("a")], [ZERO])
        self.says("always", EVEN_ODD, {}, [nx("a")], [chain(2)])

    def test_name_that_occurs_several_times(self):
        self.says("always", EVEN_ODD, {"n": 0}, ["a", "a"], ["n", "n"])
        self.says("not", EVEN_ODD, {"n": 0, "m": 0}, ["a", "a"], ["n", "m"])
        self.says("not", EVEN_ODD, {"n": 0, "m": 1}, ["a", "a"], ["n", "m"])
        self.says("not", EVEN_ODD, {"n": 0}, ["a", nx("a")], ["n", "n"])
        self.says("always", EVEN_ODD, {"n": 1}, [nx("a"), "a"], [nx("n"), "n"])
        self.says("not", PLAIN, {"n": 0, "m": 1}, [pair("a", pair("b", "a"))], [pair("n", pair("m", nx("n")))])
        self.says("always", PLAIN, {"n": 0, "m": 1}, [pair("a", pair("b", "a"))], [pair("n", pair("m", "n"))])

    def test_name_that_occurs_several_times_in_what_is_opened(self):
        # Both states have next alone; the parts of the two names may differ.
        self.says("always", EVEN_ODD, {"n": 1}, [nx("a"), nx("a")], ["n", "n"])
        self.says("not", EVEN_ODD, {"n": 1, "m": 1}, [nx("a"), nx("a")], ["n", "m"])
        self.says("always", BALANCED, {"n": 1}, [nx("a"), nx("b"), "c"], ["n", "n", "n"])
        self.says("not", DOUBLING, {"n": 1, "m": 3}, [pair("a", "a")], ["n"])

    def test_opened_once_and_several_times(self):
        self.says("always", THREE, {"n": 2}, [nx("a")], ["n"])
        self.says("always", THREE, {"n": 2}, [nx(nx("a"))], ["n"])
        self.says("not", THREE, {"n": 2}, [nx(nx(nx("a")))], ["n"])
        self.says("always", DOUBLING, {"n": 3, "m": 0}, [pair(pair("a", "b"), "c")], ["n"])
        self.says("always", DOUBLING, {"n": 3, "m": 0}, [pair(pair("a", "b"), pair("c", "d"))], ["n"])
        self.says("always", DOUBLING, {"n": 4, "m": 0}, [pair(pair("a", "b"), pair("c", "d")), "e"], ["n", "m"])
        self.says("not", DOUBLING, {"n": 3}, [pair(pair("a", "b"), pair(pair("c", "d"), "e"))], ["n"])

    def test_opened_name_stands_elsewhere(self):
        self.says("always", THREE, {"n": 2}, ["b", nx("a"), "c"], ["n", "n", nx("n")])
        self.says("always", THREE, {"n": 2}, [nx("a"), nx("c")], ["n", nx("n")])
        self.says("always", THREE, {"n": 2}, ["a", nx(nx("c")), "a"], ["n", "n", "n"])

    def test_single_states(self):
        self.says("always", ALONE, {"n": 1}, [nx("a")], ["n"])
        self.says("always", ALONE, {"n": 1}, [chain(1)], ["n"])
        self.says("always", ALONE, {"n": 1, "m": 1}, ["a", "a"], ["n", "m"])
        self.says("always", ALONE, {"n": 1, "m": 0}, ["a", "a"], ["n", nx("m")])
        self.says("always", ALONE, {"n": 1, "m": 0}, [nx("a"), "a"], ["n", "m"])
        self.says("not", ALONE, {"n": 2, "m": 0}, [nx("a"), "a"], ["n", "m"])
        self.says("always", ALONE, {"n": 1}, [nx("a"), "a"], ["n", ZERO])
        self.says("not", ALONE, {"n": 1, "m": 2}, ["a", "a"], ["n", "m"])

    def test_fits_in_some_cases_alone(self):
        self.says("not", EVEN_ODD, {"n": 0}, [nx("a")], ["n"])
        self.says("not", EVEN_ODD, {"n": 0}, [ZERO], ["n"])
        self.says("not", SWAPPED, {"n": 0}, [nx("a")], ["n"])
        self.says("not", SWAPPED, {"n": 2}, [nx("a")], ["n"])
        self.says("not", SWAPPED, {"n": 1, "m": 1}, [pair("a", "b")], ["n"])

    def test_names_of_patterns_and_of_the_context(self):
        # The names of opened ones may look like those of the patterns to come.
        self.says("always", THREE, {"n.1": 2, "m.2": 1}, [nx(nx("a")), "b"], ["n.1", "m.2"])

    def test_deep_terms(self):
        self.says("always", EVEN_ODD, {"n": 1}, [nested(100, "a", nx)], [nested(100, "n", nx)])
        self.says("always", EVEN_ODD, {"n": 1}, [nested(101, "a", nx)], [nested(100, "n", nx)])
        self.says("not", EVEN_ODD, {"n": 1}, [nested(102, "a", nx)], [nested(100, "n", nx)])
        self.says("always", EVEN_ODD, {"n": 1}, ["a", "a"], [nested(150, "n", nx)] * 2)

    def test_many_rows(self):
        machine = machine_of(SIX)
        table = machine_of(HIDDEN_FOUR)
        self.assertEqual(fits(machine, {"n": 5}, [chain(5, "a")], ["n"])[0], "always")
        _, rows = fits(table, {"n": 4, "m": 4}, [pair("a", "b"), pair("c", "d")], ["n", "m"])
        self.assertEqual(len(rows), len(into(table, 4)) ** 2)
        self.assertEqual(len({tuple(sorted(inner.items())) for inner, _, _ in rows}), len(rows))

    def test_as_the_words_say(self):
        rng = random.Random(503)
        words = []
        tables = list(SMALL) + [random_table(rng, 10, lambda one: len(machine_of(one)[1])) for _ in range(30)]
        for table in tables:
            machine = machine_of(table)
            rows = first_trees(machine, table[1], 4, 5)
            for _ in range(12):
                told = {name: rng.randrange(len(machine[1])) for name in "abc"[:rng.randint(0, 3)]}
                many = rng.randint(1, 3)
                terms = [random_term(rng, table[1], list(told), rng.randint(1, 3)) for _ in range(many)]
                if rng.random() < 0.5:
                    patterns = [random_term(rng, table[1], list("pqrs"), rng.randint(1, 3)) for _ in range(many)]
                else:
                    patterns = [self.looser(rng, machine, told, term) for term in terms]
                words.append(self.check(machine, rows, told, patterns, terms))
        self.assertGreater(words.count("always"), 100)
        self.assertGreater(words.count("not"), 100)

    def looser(self, rng, machine, told, term):
        """A pattern that may fit a term: names in the place of some parts, and makers in the place of some names."""
        if rng.random() < 0.25:
            return rng.choice("pqrs")
        if isinstance(term, str):
            makers = {(maker, len(parts)) for maker, parts in into(machine, told[term])}
            if len(makers) > 1 or rng.random() < 0.3:
                return f"n{term}"
            (maker, many), = makers
            return (maker, *(f"{term}{at}" for at in range(many)))
        return (term[0], *(self.looser(rng, machine, told, part) for part in term[1:]))


class Vectors(unittest.TestCase):

    def by_hand(self, machine, names, demands):
        found = []
        for states in itertools.product(range(len(machine[1])), repeat=len(names)):
            told = dict(zip(sorted(names), states))
            if all(family in machine[1][state_in(machine, told, term)] for family, term in demands):
                found.append(told)
        return found

    def tells(self, table, names, demands):
        machine = machine_of(table)
        given = copy.deepcopy((machine, names, demands))
        found = vectors(machine, names, demands)
        self.assertEqual((machine, names, demands), given)
        self.assertEqual(found, self.by_hand(machine, names, demands))
        return found

    def test_without_names(self):
        self.assertEqual(self.tells(EVEN_ODD, [], []), [{}])
        self.assertEqual(self.tells(EVEN_ODD, [], [("Even", chain(4)), ("Odd", chain(1))]), [{}])
        self.assertEqual(self.tells(EVEN_ODD, [], [("Even", chain(4)), ("Odd", chain(2))]), [])

    def test_without_demands(self):
        self.assertEqual(self.tells(EVEN_ODD, ["n"], []), [{"n": 0}, {"n": 1}])
        self.assertEqual(len(self.tells(CROSSED, ["n", "m"], [])), 36)

    def test_name_that_no_demand_has(self):
        self.assertEqual(self.tells(EVEN_ODD, ["n", "m"], [("Odd", "n")]), [{"m": 0, "n": 1}, {"m": 1, "n": 1}])

    def test_demands_at_deep_terms(self):
        self.tells(EVEN_ODD, ["n"], [("Odd", nested(50, "n", nx))])
        self.tells(DOUBLING, ["a", "b"], [("C", pair(pair("a", "b"), pair("b", "a")))])
        self.tells(DOUBLING, ["a", "b", "c"], [("D", pair(pair(pair("a", "b"), pair("b", "c")), "c"))])
        self.assertEqual(self.tells(EVEN_ODD, ["n"], [("Odd", "n"), ("Even", "n")]), [])
        self.assertEqual(self.tells(EVEN_ODD, ["n"], [("Odd", "n"), ("Even", nx("n"))]), [{"n": 1}])

    def test_order_of_the_names(self):
        found = self.tells(EVEN_ODD, ["n9", "n10", "N"], [("Odd", "n9")])
        self.assertEqual([list(sorted(row)) for row in found], [["N", "n10", "n9"]] * 4)
        self.assertEqual([(row["N"], row["n10"]) for row in found], [(0, 0), (0, 1), (1, 0), (1, 1)])

    def test_demands_that_hang_together(self):
        rng = random.Random(507)
        seen = 0
        tables = list(SMALL) + [random_table(rng, 15, lambda one: len(machine_of(one)[1])) for _ in range(40)]
        for table in tables:
            machine = machine_of(table)
            names = list("dacb")[:4 if len(machine[1]) < 6 else 3]
            for _ in range(6):
                demands = [(rng.choice(table[2]), random_term(rng, table[1], names, rng.randint(1, 4)))
                           for _ in range(rng.randint(1, 4))]
                seen += len(self.tells(table, names, demands))
        self.assertGreater(seen, 1000)

    def test_demands_none_of_which_tells_of_one_name_alone(self):
        self.assertEqual(len(self.tells(PARITY, ["a", "b", "c"], [
            ("Same", pair("a", "b")), ("Diff", pair("b", "c")), ("Diff", pair("a", "c"))])), 2)
        self.assertEqual(self.tells(PARITY, ["a", "b", "c"], [
            ("Same", pair("a", "b")), ("Diff", pair("b", "c")), ("Same", pair("a", "c"))]), [])
        self.assertEqual(len(self.tells(PARITY, ["a", "b", "c", "d"], [
            ("Diff", pair("d", "c")), ("Diff", pair("a", "b"))])), 4)
        self.assertEqual(self.tells(PARITY, ["a", "b", "c", "d"], [
            ("Diff", pair("d", "c")), ("Diff", pair("a", "b")), ("Same", pair("c", "d"))]), [])
        rng = random.Random(509)
        counts = []
        for _ in range(60):
            names = list("abcd")
            demands = [(rng.choice(("Same", "Diff")), pair(rng.choice(names), nx(rng.choice(names))))
                       for _ in range(rng.randint(2, 5))]
            counts.append(len(self.tells(PARITY, names, demands)))
        self.assertGreater(min(counts.count(0), len([one for one in counts if one])), 10)
        # Twenty names in a row, and a ring of an odd number of them that differ.
        names = [f"n{at}" for at in range(20)]
        row = [("Diff", pair(one, other)) for one, other in zip(names, names[1:])]
        self.assertEqual(len(vectors(machine_of(PARITY), names, row)), 2)
        self.assertEqual(vectors(machine_of(PARITY), names, row + [("Same", pair("n0", "n19"))]), [])

    def test_many_names_of_which_few_vectors_are(self):
        # Each name is bound to the next one, so that trying all states would take for ever.
        names = [f"n{at}" for at in range(14)]
        demands = [("C", pair(one, other)) for one, other in zip(names, names[1:])] + [("B", "n3")]
        found = vectors(machine_of(DOUBLING), names, demands)
        self.assertEqual(found, [{name: 1 for name in sorted(names)}])
        demands = [("D", pair(one, other)) for one, other in zip(names[::2], names[1::2])] + [
            ("B", pair(names[0], names[13]))]
        self.assertEqual(vectors(machine_of(DOUBLING), names, demands), [])

    def test_trees_for_which_the_demands_hold(self):
        rng = random.Random(508)
        for table in SMALL:
            machine = machine_of(table)
            for _ in range(20):
                term = random_term(rng, table[1], ["m", "n"], 3)
                family = rng.choice(table[2])
                told = vectors(machine, ["m", "n"], [(family, term)])
                trees = {name: random_tree(rng, table[1], 4) for name in "mn"}
                states = {name: state_of(machine, trees[name]) for name in "mn"}
                holds = family in machine[1][state_of(machine, filled(term, trees))]
                self.assertEqual(told.count(states), 1 if holds else 0)


if __name__ == "__main__":
    unittest.main()
