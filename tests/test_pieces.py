"""Points 800 to 805: skeletons, their contexts, those that live, and the pieces of functions."""

import copy
import itertools
import random
import time
import unittest

from exactkinds.indices import names_of
from exactkinds.languages import vectors
from exactkinds.machine import machine_of
from exactkinds.pieces import context, lives, pieces, sample, unreached
from exactkinds.programs import clause_for, is_program
from exactkinds.reading import read
from tests.oracle import (
    ALL, AT, MORE, TURNS, TURNS_TABLE, TYPED, TYPED_TABLE, VECTOR_TABLE, all_values, asked_for, asked_trees, belongs,
    function_in, random_program)
from tests.samples import (
    BALANCED, EVEN_ODD, GREAT, PAIRS, PARITY, SMALL, fit, index_by_hand, nx, pair, random_table)

Z = ("z",)


def s(term):
    return ("s", term)


def head(*params, index="n", family=None, clauses=()):
    return ("f", params, family or params[0][0], index, 0, clauses)


def names_under(pattern):
    return [pattern] if isinstance(pattern, str) else [name for part in pattern[1:] for name in names_under(part)]


class Contexts(unittest.TestCase):

    def tells(self, table, function, skeleton, told):
        given = copy.deepcopy((table, function, skeleton))
        self.assertEqual(context(table, function, skeleton), told)
        self.assertEqual((table, function, skeleton), given)

    def test_examples(self):
        at = AT[1][0]
        self.tells(VECTOR_TABLE, at, (("Pop", "v0"), ("Cons", "v1", "v2")), (
            (s("i0"), s("i0")), (("Fin", "i0"), ("Bit", Z), ("Vec", "i0"))))
        self.tells(VECTOR_TABLE, at, (("Pop", "v0"), ("Nil",)), None)
        self.tells(VECTOR_TABLE, at, ("v0", "v1"), (("i0", "i0"), (("Fin", "i0"), ("Vec", "i0"))))
        self.tells(VECTOR_TABLE, at, ("v0", ("Nil",)), ((Z, Z), (("Fin", Z),)))
        self.tells(VECTOR_TABLE, at, (("Top", ("Zero",)), "v0"), ((s(Z), s(Z)), (("Vec", s(Z)),)))

    def test_order_of_the_names(self):
        function = head(("Vec", "m"), ("Vec", s("n")), ("Vec", "m"))
        self.tells(VECTOR_TABLE, function, ("v0", "v1", "v2"), (
            ("i0", s("i1"), "i0"), (("Vec", "i0"), ("Vec", s("i1")), ("Vec", "i0"))))
        # A hidden name comes behind all names of the params, wherever its place stands.
        function = head(("Val", "b"), ("Exp", "a"), ("Val", "c"), index="a")
        self.tells(TYPED_TABLE, function, ("v0", ("Fst", "v1"), "v2"), (
            ("i0", "i1", "i2"), (("Val", "i0"), ("Exp", ("prod", "i1", "i3")), ("Val", "i2"))))
        self.tells(TYPED_TABLE, function, ("v0", ("Fst", ("Mk", "v1", ("Fst", "v2"))), "v3"), (
            ("i0", "i1", "i2"), (("Val", "i0"), ("Exp", "i1"), ("Exp", ("prod", "i3", "i4")), ("Val", "i2"))))
        self.tells(TYPED_TABLE, function, (("Both", "v0", "v1"), ("Mk", "v2", "v3"), ("Both", "v4", ("Yes",))), (
            (("prod", "i0", "i1"), ("prod", "i2", "i3"), ("prod", "i4", ("bool",))),
            (("Val", "i0"), ("Val", "i1"), ("Exp", "i2"), ("Exp", "i3"), ("Val", "i4"))))

    def test_names_of_the_function_like_those_of_a_constructor(self):
        function = head(("Val", ("prod", "b", "a")), ("Val", "a"))
        self.tells(TYPED_TABLE, function, (("Both", "v0", "v1"), "v2"), (
            (("prod", "i0", "i1"), "i1"), (("Val", "i0"), ("Val", "i1"), ("Val", "i1"))))

    def test_indices_that_are_made_one(self):
        function = head(("Val", "a"), ("Val", "a"))
        both = ("Both", "v0", ("Yes",))
        self.tells(TYPED_TABLE, function, (both, "v1"), (
            (("prod", "i0", ("bool",)),) * 2, (("Val", "i0"), ("Val", ("prod", "i0", ("bool",))))))
        self.tells(TYPED_TABLE, function, (both, ("Both", ("Nought",), "v1")), (
            (("prod", ("num",), ("bool",)),) * 2, (("Val", ("num",)), ("Val", ("bool",)))))
        self.tells(TYPED_TABLE, function, (both, ("Both", "v1", ("Nought",))), None)
        self.tells(TYPED_TABLE, function, (both, ("Yes",)), None)

    def test_terms_that_do_not_go_together(self):
        function = head(("Vec", s(s("n"))), ("Vec", "n"))
        self.tells(VECTOR_TABLE, function, (("Nil",), "v0"), None)
        self.tells(VECTOR_TABLE, function, (("Cons", "v0", ("Nil",)), "v1"), None)
        self.tells(VECTOR_TABLE, function, (("Cons", "v0", ("Cons", "v1", ("Nil",))), "v2"), (
            (s(s(Z)), Z), (("Bit", Z), ("Bit", Z), ("Vec", Z))))
        # A part that is deeper than what is made of it.
        table = ("table", PAIRS, ("D",), (("C", (("D", "n"), ("D", nx("n"))), "D", nx("n")), ("E", (), "D", ("zero",))))
        function = head(("D", "n"), ("D", nx("n")))
        self.tells(table, function, (("C", "v0", "v1"), ("C", "v2", "v3")), (
            (nx("i0"), nx(nx("i0"))),
            (("D", "i0"), ("D", nx("i0")), ("D", nx("i0")), ("D", nx(nx("i0"))))))
        self.tells(table, function, (("E",), "v0"), ((("zero",), nx(("zero",))), (("D", nx(("zero",))),)))
        self.tells(table, function, ("v0", ("E",)), None)

    def test_made_index_that_is_a_name(self):
        table = ("table", PAIRS, ("D", "E"), (
            ("A", (("D", "n"), ("E", pair("n", "h"))), "D", "n"), ("B", (("D", "n"),), "E", nx("n"))))
        function = head(("D", pair("m", "n")), ("D", "m"))
        self.tells(table, function, (("A", "v0", "v1"), "v2"), (
            (pair("i0", "i1"), "i0"), (("D", pair("i0", "i1")), ("E", pair(pair("i0", "i1"), "i2")), ("D", "i0"))))
        self.tells(table, function, (("A", ("A", "v0", "v1"), "v2"), ("A", "v3", ("B", "v4"))), None)

    def test_index_without_names(self):
        function = ("f", (("Bit", Z),), "Bit", Z, 0, ())
        self.tells(VECTOR_TABLE, function, ("v0",), ((Z,), (("Bit", Z),)))
        self.tells(VECTOR_TABLE, function, (("On",),), ((Z,), ()))

    def test_against_values(self):
        """The values that belong to a skeleton are those that its places give at trees for its names."""
        rng = random.Random(802)
        tables = [EVEN_ODD, BALANCED, VECTOR_TABLE, TYPED_TABLE] + [
            random_table(rng, 10, lambda one: len(machine_of(one)[1])) for _ in range(25)]
        seen = [0, 0]
        for table in tables:
            values = all_values(table, 6)
            for _ in range(4):
                function = rng.choice(random_program(rng, table, 1)[1])
                rows = asked_for(table, function, values, 150)
                for _, skeleton in self.skeletons(rng, table, function):
                    told = context(table, function, skeleton)
                    for given in rows:
                        if belongs(skeleton, given):
                            seen[0] += 1
                            self.matches(table, function, skeleton, told, given)
                    if told is None:
                        seen[1] += 1
                    else:
                        self.is_named(told, skeleton)
        self.assertGreater(min(seen), 50)

    def skeletons(self, rng, table, function):
        found = [(None, tuple(f"v{at}" for at in range(len(function[1]))))]
        for _ in range(6):
            _, skeleton = rng.choice(found)
            names = [name for pattern in skeleton for name in names_under(pattern)]
            if names:
                self.split(rng, table, function, skeleton, rng.choice(names), found)
        return found

    def split(self, rng, table, function, skeleton, name, found):
        def family_at(pattern, family):
            if isinstance(pattern, str):
                return family if pattern == name else None
            kinds = next(one for one in table[3] if one[0] == pattern[0])[1]
            inner = [family_at(part, each) for part, (each, _) in zip(pattern[1:], kinds)]
            return next((one for one in inner if one), None)

        family = next(one for one in (family_at(*both) for both in zip(skeleton, [k for k, _ in function[1]])) if one)
        made = [one for one in table[3] if one[2] == family]
        if made:
            word, parts, _, _ = rng.choice(made)
            counter = itertools.count()

            def renamed(pattern):
                if pattern == name:
                    return (word, *(f"v{next(counter)}" for _ in parts))
                if isinstance(pattern, str):
                    return f"v{next(counter)}"
                return (pattern[0], *(renamed(part) for part in pattern[1:]))

            found.append((None, tuple(renamed(pattern) for pattern in skeleton)))

    def matches(self, table, function, skeleton, told, given):
        self.assertIsNotNone(told)
        params, places = told
        inner = {}
        for pattern, value in zip(skeleton, given):
            fit(pattern, value, inner)
        names = {}
        kinds = [index_by_hand(table, inner[f"v{at}"]) for at in range(len(places))]
        self.assertEqual([family for family, _ in kinds], [family for family, _ in places])
        trees = [index_by_hand(table, value)[1] for value in given]
        for term, tree in zip([term for _, term in places] + list(params), [tree for _, tree in kinds] + trees):
            self.assertTrue(fit(term, tree, names))

    def is_named(self, told, skeleton):
        params, places = told
        terms = list(params) + [term for _, term in places]
        order = [name for term in terms for name in names_of(term)]
        self.assertEqual(list(dict.fromkeys(order)), [f"i{at}" for at in range(len(set(order)))])
        self.assertEqual(len(places), len([name for pattern in skeleton for name in names_under(pattern)]))


class Lives(unittest.TestCase):

    def test_lives(self):
        machine = machine_of(VECTOR_TABLE)
        at = AT[1][0]
        for skeleton, told in (((("Pop", "v0"), "v1"), True), ((("Top", "v0"), ("Nil",)), False),
                               (("v0", ("Nil",)), False), ((("Pop", "v0"), ("Cons", "v1", ("Nil",))), False),
                               ((("Pop", "v0"), ("Cons", "v1", ("Cons", "v2", "v3"))), True),
                               ((("Top", "v0"), ("Cons", "v1", ("Nil",))), True)):
            self.assertIs(lives(VECTOR_TABLE, machine, at, skeleton), told)

    def test_states_that_do_not_go_together(self):
        machine = machine_of(EVEN_ODD)
        function = head(("Even", "n"), ("Odd", "n"))
        self.assertIs(lives(EVEN_ODD, machine, function, ("v0", "v1")), False)
        function = head(("Even", "n"), ("Odd", nx("n")))
        self.assertIs(lives(EVEN_ODD, machine, function, ("v0", "v1")), True)
        self.assertIs(lives(EVEN_ODD, machine, head(("Even", nx(nx("n"))), ("Odd", "n")), ("v0", "v1")), False)

    def test_places_none_of_which_tells_of_one_name_alone(self):
        machine = machine_of(PARITY)
        for one, alive in (("Diff", True), ("Same", False)):
            function = head(("Same", pair("a", "b")), ("Diff", pair("b", "c")), (one, pair("a", "c")), index="a",
                            family="Same")
            self.assertIs(lives(PARITY, machine, function, ("v0", "v1", "v2")), alive)
            self.assertIs(lives(PARITY, machine, function, (("SO", "v0", "v1"), "v2", "v3")), alive)
            self.assertEqual(pieces(PARITY, machine, function), [(-1, ("v0", "v1", "v2"))] if alive else [])
        # The least states of the names are no vector.
        for params in ((("Diff", pair("a", "b")),), (("Diff", pair("a", "b")), ("Diff", pair("c", "d"))),
                       (("Diff", pair("a", "b")), ("Same", pair("c", "b")), ("Diff", pair("d", "b")))):
            function = head(*params, index="a", family="Even")
            skeleton = tuple(f"v{at}" for at in range(len(params)))
            self.assertIsNotNone(asked_trees(PARITY, function, sample(PARITY, machine, function, skeleton)))

    def test_family_without_constructors(self):
        table = ("table", PAIRS, ("Nat", "No"), (("Z", (), "Nat", ("zero",)), ("S", (("Nat", "n"),), "Nat", nx("n"))))
        machine = machine_of(table)
        function = head(("Nat", "n"), ("No", "m"), clauses=(((("Z",), "w"), ("Z",)), (("k", "w"), "k")))
        self.assertIs(lives(table, machine, function, ("v0", "v1")), False)
        self.assertEqual(pieces(table, machine, function), [])
        self.assertEqual(unreached(table, machine, function), [0, 1])

    def test_against_vectors(self):
        rng = random.Random(803)
        for _ in range(40):
            table = random_table(rng, 10, lambda one: len(machine_of(one)[1]))
            machine = machine_of(table)
            for function in random_program(rng, table, 2)[1]:
                for _, skeleton in Contexts().skeletons(rng, table, function):
                    told = context(table, function, skeleton)
                    alive = lives(table, machine, function, skeleton)
                    if told is None:
                        self.assertIs(alive, False)
                        continue
                    names = list(dict.fromkeys(name for term in list(told[0]) + [term for _, term in told[1]]
                                               for name in names_of(term)))
                    if len(machine[1]) ** len(names) < 5000:
                        self.assertIs(alive, bool(vectors(machine, names, list(told[1]))))
                    if alive:
                        given = sample(table, machine, function, skeleton)
                        self.assertTrue(belongs(skeleton, given))
                        self.assertIsNotNone(asked_trees(table, function, given))


class Pieces(unittest.TestCase):

    def tells(self, table, function, told, never=()):
        machine = machine_of(table)
        given = copy.deepcopy((table, machine, function))
        self.assertEqual(pieces(table, machine, function), told)
        self.assertEqual(unreached(table, machine, function), list(never))
        self.assertEqual((table, machine, function), given)

    def test_example(self):
        self.tells(VECTOR_TABLE, AT[1][0], [
            (0, (("Top", "v0"), ("Cons", "v1", "v2"))), (1, (("Pop", "v0"), ("Cons", "v1", "v2")))])

    def test_one_clause_for_all(self):
        self.tells(VECTOR_TABLE, function_in(MORE, "pick"), [(0, ("v0", "v1"))])

    def test_holes(self):
        self.tells(VECTOR_TABLE, function_in(MORE, "head"), [(-1, (("Nil",),)), (0, (("Cons", "v0", "v1"),))])
        self.tells(VECTOR_TABLE, head(("Vec", "n")), [(-1, ("v0",))])
        self.tells(VECTOR_TABLE, head(("Vec", "n"), clauses=(((("Cons", "x", ("Nil",)),), ("Nil",)),)), [
            (-1, (("Nil",),)), (0, (("Cons", "v0", ("Nil",)),)), (-1, (("Cons", "v0", ("Cons", "v1", "v2")),))])

    def test_clauses_that_are_never_reached(self):
        self.tells(VECTOR_TABLE, head(("Vec", "n"), clauses=(
            (("w",), "w"), ((("Nil",),), ("Nil",)))), [(0, ("v0",))], [1])
        self.tells(VECTOR_TABLE, head(("Vec", s("n")), clauses=(
            ((("Nil",),), ("Nil",)), ((("Cons", "x", "r"),), "r"), (("w",), "w"))), [
                (1, (("Cons", "v0", "v1"),))], [0, 2])
        self.tells(TURNS_TABLE, function_in(TURNS, "never"), [
            (1, (("F", ("O", ("E",))), "v0")), (-1, (("F", ("O", ("F", "v0"))), "v1"))], [0])
        same = function_in(TYPED, "same")
        self.tells(TYPED_TABLE, same, [
            (0, (("B",), ("B",))), (1, (("N",), ("N",))), (2, (("P", "v0", "v1"), ("P", "v2", "v3")))])

    def test_first_clause_that_does_not_clash_is_split_for(self):
        # The first clause splits the first param, the second one then the other one.
        function = head(("Vec", "n"), ("Vec", "m"), clauses=(
            ((("Nil",), ("Nil",)), ("Nil",)), (("w", ("Cons", "y", "q")), "w"), (("w", "u"), "w")))
        self.tells(VECTOR_TABLE, function, [
            (0, (("Nil",), ("Nil",))), (1, (("Nil",), ("Cons", "v0", "v1"))),
            (2, (("Cons", "v0", "v1"), ("Nil",))), (1, (("Cons", "v0", "v1"), ("Cons", "v2", "v3")))])

    def test_names_from_left_to_right(self):
        # Of Left, no first part is a leaf: Lower does not hold at zero.
        function = head(("Bal", "n"), ("Bal", "m"), clauses=(
            ((("Left", ("Leaf",), ("Wrap", "x")), "y"), ("Leaf",)), (("w", ("Leaf",)), "w"), (("w", "x"), "w")))
        self.tells(BALANCED, function, [
            (1, (("Leaf",), ("Leaf",))), (2, (("Leaf",), ("Full", "v0", "v1"))), (2, (("Leaf",), ("Left", "v0", "v1"))),
            (1, (("Full", "v0", "v1"), ("Leaf",))), (2, (("Full", "v0", "v1"), ("Full", "v2", "v3"))),
            (2, (("Full", "v0", "v1"), ("Left", "v2", "v3"))),
            (1, (("Left", ("Full", "v0", "v1"), "v2"), ("Leaf",))),
            (2, (("Left", ("Full", "v0", "v1"), "v2"), ("Full", "v3", "v4"))),
            (2, (("Left", ("Full", "v0", "v1"), "v2"), ("Left", "v3", "v4"))),
            (1, (("Left", ("Left", "v0", "v1"), "v2"), ("Leaf",))),
            (2, (("Left", ("Left", "v0", "v1"), "v2"), ("Full", "v3", "v4"))),
            (2, (("Left", ("Left", "v0", "v1"), "v2"), ("Left", "v3", "v4")))], [0])

    def test_first_skeleton_that_does_not_live(self):
        self.tells(EVEN_ODD, head(("Even", "n"), ("Odd", "n"), clauses=((("a", "b"), "a"),)), [], [0])

    def test_pieces_that_are_told_by_states_alone(self):
        # The clauses tell nothing of the second value, but its index does.
        function = head(("Even", nx("n")), ("Odd", "n"), family="Odd", clauses=(
            ((("F", ("O", ("E",))), "o"), "o"), ((("F", ("O", ("F", "k"))), "o"), "o")))
        self.tells(EVEN_ODD, function, [
            (0, (("F", ("O", ("E",))), "v0")), (1, (("F", ("O", ("F", "v0"))), "v1"))])

    def check(self, table, function, values, most):
        """Check the pieces of a function against values; return how many values were tried."""
        machine = machine_of(table)
        found = pieces(table, machine, function)
        self.assertEqual(unreached(table, machine, function),
                         [at for at in range(len(function[5])) if at not in [clause for clause, _ in found]])
        for clause, skeleton in found:
            given = sample(table, machine, function, skeleton)
            self.assertIsInstance(given, tuple)
            self.assertTrue(belongs(skeleton, given))
            self.assertIsNotNone(asked_trees(table, function, given))
            self.assertEqual(clause_for(function, given), clause)
        rows = asked_for(table, function, values, most)
        for given in rows:
            homes = [clause for clause, skeleton in found if belongs(skeleton, given)]
            self.assertEqual(homes, [clause_for(function, given)])
        return len(rows)

    def test_values_up_to_a_size(self):
        for table, program in ALL:
            values = all_values(table, 8)
            for function in program[1]:
                self.check(table, function, values, 400)

    def test_random_programs(self):
        rng = random.Random(805)
        tables = list(SMALL) + [random_table(rng, 10, lambda one: len(machine_of(one)[1])) for _ in range(40)]
        seen = 0
        for table in tables:
            values = all_values(table, 5)
            for function in random_program(rng, table, 3)[1]:
                seen += self.check(table, function, values, 200)
        self.assertGreater(seen, 1000)

    def test_as_the_words_say(self):
        """Point 804, for random functions, with the skeletons told by the words."""
        rng = random.Random(804)
        for _ in range(60):
            table = rng.choice((VECTOR_TABLE, BALANCED, TYPED_TABLE, GREAT))
            machine = machine_of(table)
            for function in random_program(rng, table, 2)[1]:
                found = []
                self.walk(table, machine, function, tuple(f"v{at}" for at in range(len(function[1]))), found)
                self.assertEqual(pieces(table, machine, function), found)

    def walk(self, table, machine, function, skeleton, found):
        if not lives(table, machine, function, skeleton):
            return
        for clause, (patterns, _) in enumerate(function[5]):
            places = [place for pattern, shape in zip(patterns, skeleton) for place in self.meeting(pattern, shape)]
            if None not in places:
                if places:
                    kinds = [family for family, _ in function[1]]
                    family = self.family_at(table, skeleton, kinds, places[0])
                    for word, parts, made, _ in table[3]:
                        if made == family:
                            shape = (word, *("" for _ in parts))
                            self.walk(table, machine, function, self.exchanged(skeleton, places[0], shape), found)
                else:
                    found.append((clause, skeleton))
                return
        found.append((-1, skeleton))

    def meeting(self, pattern, shape):
        if isinstance(pattern, str):
            return []
        if isinstance(shape, str):
            return [shape]
        if pattern[0] != shape[0]:
            return [None]
        return [place for both in zip(pattern[1:], shape[1:]) for place in self.meeting(*both)]

    def family_at(self, table, shapes, kinds, name):
        for shape, family in zip(shapes, kinds):
            if shape == name:
                return family
            if not isinstance(shape, str):
                parts = next(one for one in table[3] if one[0] == shape[0])[1]
                inner = self.family_at(table, shape[1:], [each for each, _ in parts], name)
                if inner:
                    return inner
        return None

    def exchanged(self, skeleton, name, shape):
        counter = itertools.count()

        def renamed(pattern):
            if pattern == name:
                return renamed(shape)
            if isinstance(pattern, str):
                return f"v{next(counter)}"
            return (pattern[0], *(renamed(part) for part in pattern[1:]))

        return tuple(renamed(pattern) for pattern in skeleton)

    def test_skeletons_with_many_names(self):
        table, program = read("""
maker z 0
maker s 1
family A
family B
con E : -> A(z)
con T : A(n), A(n), A(n) -> A(s(n))
con U : A(n), B(n), A(n) -> A(s(n))
con V : A(n) -> B(n)
fun f falls 0 : A(n), A(n), A(n) -> A(n)
f(T(T(a, b, c), T(d, e, g), T(h, k, l)), T(m, n, o), T(p, q, r)) = T(a, b, c)
f(U(a, V(T(b, c, d)), T(e, g, h)), T(k, l, m), x) = x
f(x, T(T(a, b, c), T(d, e, g), T(h, k, l)), T(m, n, U(o, p, q))) = x
f(x, y, T(T(a, b, c), T(d, e, g), T(h, k, l))) = x
f(x, y, w) = x
""")
        self.assertTrue(is_program(table, program))
        machine = machine_of(table)
        begun = time.time()
        found = pieces(table, machine, program[1][0])
        self.assertLess(time.time() - begun, 10)
        self.assertGreater(len(found), 100)
        self.check(table, program[1][0], all_values(table, 5), 300)
        self.assertGreater(max(len(context(table, program[1][0], skeleton)[1]) for _, skeleton in found), 20)


if __name__ == "__main__":
    unittest.main()
