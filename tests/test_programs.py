"""Points 600 to 605: programs and what makes them well made, and the clauses that take values (point 701)."""

import copy
import random
import unittest

from exactkinds.errors import BadProgram
from exactkinds.programs import (
    calls_of, check_program, clause_for, function_of, group_of, is_program, names_in, taken)
from tests.oracle import ALL, AT, MORE, TURNS, TYPED, VECTOR_TABLE, clause_by_hand, random_program
from tests.samples import ANYTHING, BARE, PAIRS, SMALL, nested, nx

# Lists of pairs: enough of all kinds for the bounds.
TABLE = ("table", PAIRS, ("Nat", "Two"), (
    ("Z", (), "Nat", ("zero",)),
    ("S", (("Nat", "n"),), "Nat", nx("n")),
    ("D", (("Nat", "m"), ("Nat", "n"), ("Two", "n")), "Two", nx("n")),
    ("N", (), "Two", ("zero",))))
NAT = (("Nat", "n"),)


def fun(clauses, word="f", params=NAT, family="Nat", index="n", falls=0):
    return (word, params, family, index, falls, clauses)


def program(*functions):
    return ("program", functions)


def one(*clauses, **more):
    return program(fun(clauses, **more))


def with_item(value, at, item):
    return value[:at] + (item,) + value[at + 1:]


class Case(unittest.TestCase):

    def good(self, value, table=TABLE):
        told = copy.deepcopy((table, value))
        self.assertIs(is_program(table, value), True)
        self.assertIsNone(check_program(table, value))
        self.assertEqual((table, value), told)

    def bad(self, value, table=TABLE):
        self.assertIs(is_program(table, value), False, value)
        with self.assertRaises(BadProgram):
            check_program(table, value)


class Forms(Case):

    def test_samples(self):
        for table, value in ALL:
            self.good(value, table)
        rng = random.Random(600)
        for table in SMALL:
            for _ in range(10):
                self.good(random_program(rng, table, 3), table)

    def test_nothing_in_it(self):
        self.good(("program", ()))
        self.good(("program", ()), BARE)
        self.good(one())
        self.good(one(params=(("Nat", "n"),)), BARE)

    def test_any_value(self):
        for value in ANYTHING:
            self.bad(value)
            self.bad(("program", value)) if value != () else self.good(("program", value))
            self.bad(("program", (value,)))
            self.bad(("program", (fun(()), value)))
        for kind in (lambda inside: (inside,), lambda inside: [inside], lambda inside: {"program": inside},
                     lambda inside: ("program", inside), lambda inside: ("S", inside)):
            deep = nested(57, "k", kind)
            self.bad(deep)
            self.bad(("program", deep))
            self.bad(one(((deep,), "k")))
            self.bad(one((("k",), deep)))
            self.bad(one(params=(("Nat", deep),)))

    def test_any_value_at_each_place(self):
        right = fun((((("S", "k"),), ("S", ("f", "k"))), (("k",), "k")))
        for value in ANYTHING + (1.5, b"k"):
            for at in range(6):
                # An empty tuple of clauses is right, and so is 0 for the place at which it falls.
                if (at == 5 and value == ()) or (at == 4 and value == 0 and not isinstance(value, bool)):
                    self.good(program(with_item(right, at, value)))
                elif not (at in (0, 3) and value == "n"):
                    self.bad(program(with_item(right, at, value)))
            self.bad(program(with_item(right, 1, (value,))))
            self.bad(program(with_item(right, 1, (("Nat", "n"), value))))
            self.bad(program(with_item(right, 1, ((value, "n"),))))
            if value != "n":
                self.bad(program(with_item(right, 1, (("Nat", value),))))
            self.bad(program(with_item(right, 5, (value,))))
            self.bad(program(with_item(right, 5, (((("k",), "k")), value))))
            self.bad(one((value, "k")))
            self.bad(one((("k",), value)))
            self.bad(one((("k",), ("S", value))))
            self.bad(one((("k",), (value, "k"))))
            self.bad(one(((value,), "k")))
            self.bad(one(((("S", value),), "k")))
            self.bad(one((((value, "k"),), "k")))

    def test_items_left_out_doubled_or_in_lists(self):
        right = fun(((("k",), "k"),))
        for at in range(6):
            self.bad(program(right[:at] + right[at + 1:]))
            self.bad(program(right[:at] + right[at:at + 1] + right[at:]))
        self.bad(program(list(right)))
        self.bad(["program", (right,)])
        self.bad(("program", [right]))
        self.bad(("program", (right,), ()))
        self.bad(("program",))
        self.bad(("Program", (right,)))
        self.bad(program(with_item(right, 1, [("Nat", "n")])))
        self.bad(program(with_item(right, 1, (["Nat", "n"],))))
        self.bad(program(with_item(right, 5, [(("k",), "k")])))
        self.bad(program(with_item(right, 5, ([("k",), "k"],))))
        self.bad(program(with_item(right, 5, ((["k"], "k"),))))
        self.bad(program(with_item(right, 5, ((("k",),),))))
        self.bad(program(with_item(right, 5, ((("k",), "k", "k"),))))
        self.bad(one(((["S", "k"],), "k")))
        self.bad(one((("k",), ["S", "k"])))

    def test_value_with_very_many_places(self):
        for maker in (lambda inside: ("D", inside, inside, inside), lambda inside: ("pair", inside, inside),
                      lambda inside: ("f", inside)):
            deep = nested(55, "k", maker)
            self.bad(one((("k",), deep)))
            self.bad(one(((deep,), "k")))
            self.bad(one(params=(("Nat", deep),)))
            self.bad(one(index=deep))


class Heads(Case):

    def test_words(self):
        self.good(one(word="a" * 12))
        for word in ("a" * 13, "", "1a", "a b", "a-b", "S", "Z", "zero", "pair", "Nat", "Two", ("f",), None):
            self.bad(one(word=word))
        self.good(program(fun(()), fun((), word="g")))
        self.bad(program(fun(()), fun(())))
        self.bad(program(fun(()), fun((), word="g"), fun((), params=NAT + NAT)))
        # The words of index names and of pattern names are not asked for.
        self.good(one((("n",), "n"), word="m", params=(("Nat", "m"),), index="m"))
        self.good(one((("zero",), "zero"), (("Nat",), "Nat"), params=(("Nat", "Nat"),), index="Nat"))

    def test_families(self):
        for family in ("No", "nat", "zero", "S", "f"):
            self.bad(one(family=family))
            self.bad(one(params=((family, "n"),)))
            self.bad(one(params=(("Nat", "n"), (family, "n"))))

    def test_terms(self):
        self.good(one(params=(("Nat", ("pair", "n", ("zero",))),)))
        for term in (("pair", "n"), ("next",), ("next", "n", "n"), ("zero", "n"), ("S", "n"), ("n", "n"), ("n",),
                     "zero", "next", "a b", "1", "a" * 13, "i.1", ["next", "n"], ("next", ["n"])):
            self.bad(one(params=(("Nat", "n"), ("Nat", term))))
            self.bad(one(index=term))

    def test_depth(self):
        self.good(one(params=(("Nat", nested(3, "n", nx)),), index=nested(3, "n", nx)))
        self.bad(one(params=(("Nat", nested(4, "n", nx)),)))
        self.bad(one(index=nested(4, "n", nx)))
        self.good(one(index=nested(3, ("zero",), nx)))
        self.bad(one(index=nested(4, ("zero",), nx)))

    def test_index_names(self):
        four = ("pair", ("pair", "a", "b"), ("pair", "c", "d"))
        self.good(one(params=(("Nat", four),), index="d"))
        self.good(one(params=(("Nat", four), ("Nat", ("pair", "d", "a"))), index=four))
        self.bad(one(params=(("Nat", four), ("Nat", "e")), index="d"))
        self.bad(one(index="m"))
        self.bad(one(index=("pair", "n", "m")))
        self.bad(one(params=(("Nat", ("zero",)),)))
        self.good(one(params=(("Nat", ("zero",)),), index=("zero",)))

    def test_number_of_params(self):
        self.bad(one(params=(), index=("zero",)))
        self.good(one(params=NAT * 3))
        self.bad(one(params=NAT * 4))

    def test_place_at_which_it_falls(self):
        for falls in (0, 1, 2):
            self.good(one(params=NAT * 3, falls=falls))
        for falls in (3, -1, True, False, None, "0", (0,), 0.0):
            self.bad(one(params=NAT * 3, falls=falls))
        self.bad(one(falls=1))

    def test_number_of_functions_and_clauses(self):
        many = tuple(fun((), word=f"f{at}") for at in range(13))
        self.good(("program", many[:12]))
        self.bad(("program", many))
        clause = (("k",), "k")
        self.good(one(*[clause] * 12))
        self.bad(one(*[clause] * 13))


class Patterns(Case):

    def test_constructors(self):
        self.good(one(((("S", ("S", "k")),), "k"), ((("Z",),), ("Z",))))
        for pattern in (("S",), ("S", "k", "m"), ("Z", "k"), ("D", "k", "m", "w"), ("No", "k"), ("zero",), ("Nat", "k"),
                        ("f", "k"), ("S", ("N",)), ("S", ("D", "k", "m", "w")), (), ("S", ()), (("S",), "k")):
            self.bad(one(((pattern,), ("Z",))))
        two = (("Two", "n"),)
        self.good(one(((("D", ("S", "k"), "m", ("N",)),), "k"), params=two))
        self.bad(one(((("D", ("N",), "m", "w"),), "m"), params=two))
        self.bad(one(((("S", "k"),), "k"), params=two))

    def test_names(self):
        for name in ("S", "Z", "f", "g", "", "1k", "a b", "k.1", "a" * 13):
            self.bad(program(fun((((name,), ("Z",)),)), fun((), word="g")))
        for name in ("n", "zero", "Nat", "a" * 12, "i0", "K1"):
            self.good(one(((name,), name)))

    def test_names_that_occur_twice(self):
        two = NAT + NAT
        self.good(one((("k", "m"), "k"), params=two))
        self.bad(one((("k", "k"), "k"), params=two))
        self.bad(one(((("S", "k"), ("S", "k")), "k"), params=two))
        self.bad(one(((("D", "k", "k", "w"),), "k"), params=(("Two", "n"),)))
        self.good(one((("k", "m"), "k"), (("k", "m"), "m"), params=two))

    def test_number_of_patterns(self):
        self.bad(one((("k",), "k"), params=NAT + NAT))
        self.bad(one((("k", "m"), "k")))
        self.bad(one(((), ("Z",))))

    def test_number_of_constructors(self):
        deep = nested(6, "k", lambda inside: ("S", inside))
        self.good(one(((deep,), "k")))
        self.bad(one(((("S", deep),), "k")))
        two = nested(3, "k", lambda inside: ("S", inside)), nested(3, "m", lambda inside: ("S", inside))
        self.good(one((two, "k"), params=NAT + NAT))
        self.bad(one(((two[0], ("S", two[1])), "k"), params=NAT + NAT))
        self.good(one(((nested(5, ("Z",), lambda inside: ("S", inside)),), ("Z",))))
        self.bad(one(((nested(6, ("Z",), lambda inside: ("S", inside)),), ("Z",))))


class Bodies(Case):

    def test_names(self):
        self.good(one((("k",), ("S", "k"))))
        for name in ("m", "n", "S", "f", "Z", ""):
            self.bad(one((("k",), name)))
            self.bad(one((("k",), ("S", name))))
        # The names of another clause are not there.
        self.bad(one((("m",), "m"), (("k",), "m")))

    def test_families(self):
        two = (("Two", "n"), ("Nat", "m"))
        self.good(one((("w", "k"), "w"), params=two, family="Two"))
        self.bad(one((("w", "k"), "k"), params=two, family="Two"))
        self.bad(one((("w", "k"), "w"), params=two))
        self.good(one((("w", "k"), ("D", "k", ("Z",), "w")), params=two, family="Two"))
        self.bad(one((("w", "k"), ("D", "k", "w", "w")), params=two, family="Two"))
        self.bad(one((("w", "k"), ("D", "k", "k", "w")), params=two))
        self.bad(one((("k",), ("N",))))

    def test_numbers_of_parts(self):
        for body in (("S",), ("S", "k", "k"), ("Z", "k"), ("f",), ("f", "k", "k"), ("g", "k"), ("next", "k"), (),
                     ("Nat", "k"), ("k", "k"), ("k",)):
            self.bad(one(((("S", "k"),), body)))
        self.good(one(((("S", "k"),), ("f", "k"))))

    def test_calls(self):
        two = fun((), word="g", params=(("Two", "n"), ("Nat", "n")))
        self.good(program(fun(((("k",), ("g", ("N",), "k")),)), two))
        self.good(program(two, fun(((("k",), ("g", ("N",), "k")),))))
        self.bad(program(fun(((("k",), ("g", "k", "k")),)), two))
        self.bad(program(fun(((("k",), ("g", ("N",), ("N",))),)), two))
        self.bad(program(fun(((("k",), ("D", "k", ("g", ("N",), "k"), ("g", ("N",), "k"))),), family="Two"), two))
        self.good(program(fun(((("k",), ("D", "k", ("g", ("N",), "k"), ("N",))),), family="Two"), two))

    def test_number_of_constructors_and_calls(self):
        for maker, word in (("S", "S"), ("g", "g")):
            deep = nested(30, "k", lambda inside: (maker, inside))
            self.good(program(fun(((("k",), deep),)), fun((), word="g")))
            self.bad(program(fun(((("k",), (word, deep)),)), fun((), word="g")))
        deep = nested(29, ("Z",), lambda inside: ("S", inside))
        self.good(one((("k",), deep)))
        self.bad(one((("k",), ("S", deep))))


class Falling(Case):

    def test_to_itself(self):
        self.good(one(((("S", "k"),), ("f", "k"))))
        self.good(one(((("S", ("S", "k")),), ("S", ("f", "k")))))
        self.bad(one((("k",), ("f", "k"))))
        self.bad(one(((("S", "k"),), ("f", ("S", "k")))))
        self.bad(one(((("S", "k"),), ("f", ("Z",)))))
        self.bad(one(((("S", "k"),), ("f", ("f", "k")))))
        self.bad(one((("m",), "m"), ((("S", "k"),), ("S", ("S", ("f", ("f", "k")))))))
        # One call that falls does not help another one.
        self.bad(one(((("S", "k"),), ("g", ("f", "k"), ("f", ("S", "k"))))))

    def test_at_another_place(self):
        two = NAT + NAT
        clause = ((("S", "k"), ("S", "m")), ("f", "k", ("S", "m")))
        self.good(one(clause, params=two))
        self.bad(one(clause, params=two, falls=1))
        clause = ((("S", "k"), ("S", "m")), ("f", ("S", "k"), "m"))
        self.bad(one(clause, params=two))
        self.good(one(clause, params=two, falls=1))
        # A name of the other pattern, or of the whole.
        self.bad(one(((("S", "k"), ("S", "m")), ("f", "m", "k")), params=two))
        self.bad(one((("k", ("S", "m")), ("f", "k", "m")), params=two))
        self.bad(one((("k", ("S", "m")), ("f", "m", "m")), params=two))

    def pair_of(self, first, second, falls=0):
        return program(fun((first,)), fun((second,), word="g", params=NAT + NAT, falls=falls))

    def test_group_of_two(self):
        falling = ((("S", "k"),), ("g", "k", "k"))
        self.good(self.pair_of(falling, ((("S", "k"), "m"), ("f", "k"))))
        self.bad(self.pair_of(falling, (("k", "m"), ("f", "k"))))
        self.bad(self.pair_of(falling, ((("S", "k"), "m"), ("f", "m"))))
        self.bad(self.pair_of((("k",), ("g", "k", "k")), ((("S", "k"), "m"), ("f", "k"))))
        # It is the place of the called function that counts, in the pattern at the place of the calling one.
        self.good(self.pair_of(((("S", "k"),), ("g", ("S", "k"), "k")), (("k", ("S", "m")), ("f", "m")), falls=1))
        self.bad(self.pair_of(((("S", "k"),), ("g", "k", ("S", "k"))), (("k", ("S", "m")), ("f", "m")), falls=1))
        self.bad(self.pair_of(falling, ((("S", "k"), "m"), ("f", "k")), falls=1))

    def test_group_of_three(self):
        def ring(first, second, third):
            return program(*[fun((clause,), word=word) for word, clause in zip("fgh", (first, second, third))])

        def to(word, argument="k", pattern=("S", "k")):
            return ((pattern,), (word, argument))

        self.good(ring(to("g"), to("h"), to("f")))
        self.bad(ring(to("g"), to("h"), to("f", ("S", "k"))))
        self.bad(ring(to("g"), to("h", "k", "k"), to("f")))
        self.bad(ring(to("g", ("Z",)), to("h"), to("f")))
        # Without the last call there is no group, and nothing need fall.
        self.good(ring(to("g", ("S", "k")), to("h", "k", "k"), (("k",), "k")))
        self.good(ring(to("g", ("S", "k")), to("h"), to("g")))
        self.bad(ring(to("g", ("S", "k")), to("h"), to("g", ("Z",))))

    def test_outside_of_the_group(self):
        self.good(program(fun(((("k",), ("g", ("S", ("g", ("Z",))))),)), fun(((("k",), "k"),), word="g")))
        # A call that falls within one that is outside.
        self.good(program(fun((((("S", "k"),), ("g", ("f", "k"))),)), fun((), word="g")))
        self.bad(program(fun((((("S", "k"),), ("g", ("f", ("g", "k")))),)), fun((), word="g")))


class Parts(unittest.TestCase):

    def test_function_of(self):
        self.assertEqual(function_of(AT, "at"), AT[1][0])
        self.assertIsNone(function_of(AT, "map"))
        self.assertIsNone(function_of(("program", ()), "at"))
        for function in MORE[1]:
            self.assertEqual(function_of(MORE, function[0]), function)

    def test_calls_of(self):
        self.assertEqual(calls_of(AT, "at"), ("at",))
        self.assertEqual(calls_of(MORE, "flip"), ())
        self.assertEqual(calls_of(MORE, "rev"), ("last", "map", "rev"))
        self.assertEqual(calls_of(MORE, "join"), ("join", "zip"))
        self.assertEqual(calls_of(TYPED, "eval"), ("choose", "eval", "first", "isz"))
        self.assertEqual(calls_of(TURNS, "up"), ("down",))

    def test_group_of(self):
        self.assertEqual(group_of(TURNS, "up"), ("down", "up"))
        self.assertEqual(group_of(TURNS, "down"), ("down", "up"))
        self.assertEqual(group_of(TURNS, "never"), ("never",))
        self.assertEqual(group_of(TYPED, "eval"), ("eval",))
        self.assertEqual(group_of(MORE, "pick"), ("pick",))
        # It calls itself, and another one calls it.
        self.assertEqual(group_of(MORE, "map"), ("map",))
        self.assertEqual(group_of(MORE, "flip"), ("flip",))
        self.assertEqual(group_of(MORE, "rev"), ("rev",))

    def test_programs_that_have_only_the_form(self):
        ring = program(
            fun(((("k",), ("Z", ("g", "k"), ("b", "q"))), ((("Q", "k"),), "m")), word="B"),
            fun(((("k",), ("h", ("h", ("B", "k")))),), word="g", params=()),
            fun(((("k",), ("b", "k")),), word="h"),
            fun(((("k",), ("g", ("b", "k"))),), word="b"))
        self.assertEqual(calls_of(ring, "B"), ("b", "g"))
        self.assertEqual(calls_of(ring, "g"), ("B", "h"))
        for word in ("B", "b", "g", "h"):
            self.assertEqual(group_of(ring, word), ("B", "b", "g", "h"))
        self.assertEqual(function_of(ring, "h")[0], "h")
        self.assertEqual(clause_for(ring[1][0], (("Z",),)), 0)
        self.assertEqual(clause_for(fun((((("Q", "k"),), "k"),)), (("Z",),)), -1)

    def test_order_as_strings(self):
        words = ("f9", "f10", "F", "a")
        functions = [fun(((("k",), ("f9", ("f10", ("F", ("a", "k"))))),), word=word) for word in words]
        self.assertEqual(calls_of(program(*functions), "a"), ("F", "a", "f10", "f9"))
        self.assertEqual(group_of(program(*functions), "F"), ("F", "a", "f10", "f9"))

    def test_names_in(self):
        self.assertEqual(names_in("k"), ("k",))
        self.assertEqual(names_in(("Z",)), ())
        self.assertEqual(names_in(("D", ("S", "z"), "a", ("D", "m", ("Z",), "b"))), ("z", "a", "m", "b"))

    def test_taken(self):
        three = ("S", ("S", ("S", ("Z",))))
        self.assertEqual(taken(("k",), (three,)), {"k": three})
        self.assertEqual(taken((("S", ("S", "k")), "m"), (three, ("N",))), {"k": ("S", ("Z",)), "m": ("N",)})
        self.assertEqual(taken((("Z",),), (("Z",),)), {})
        self.assertEqual(taken((), ()), {})
        self.assertIsNone(taken((("Z",),), (three,)))
        self.assertIsNone(taken(("k", ("S", ("Z",))), (three, three)))
        self.assertEqual(taken((("D", "a", "b", ("N",)),), (("D", ("Z",), three, ("N",)),)),
                         {"a": ("Z",), "b": three})

    def test_clause_for(self):
        function = fun((((("S", ("Z",)),), ("Z",)), (("k",), "k"), ((("Z",),), ("Z",))))
        self.assertEqual(clause_for(function, (("S", ("Z",)),)), 0)
        self.assertEqual(clause_for(function, (("S", ("S", ("Z",))),)), 1)
        self.assertEqual(clause_for(function, (("Z",),)), 1)
        self.assertEqual(clause_for(fun(()), (("Z",),)), -1)
        self.assertEqual(clause_for(with_item(function, 5, function[5][:1]), (("Z",),)), -1)

    def test_raw_values_without_an_index(self):
        at = AT[1][0]
        value = ("Cons", ("Zero",), ("Top", ("Nil",)))
        self.assertEqual(clause_for(at, (("Top", ("On",)), value)), 0)
        self.assertEqual(taken(at[5][1][0], (("Pop", ("On",)), value)),
                         {"i": ("On",), "x": ("Zero",), "r": ("Top", ("Nil",))})

    def test_as_the_words_say(self):
        rng = random.Random(701)
        for _ in range(300):
            function = rng.choice(random_program(rng, VECTOR_TABLE, 2)[1])
            values = tuple(self.raw(rng, 4) for _ in function[1])
            place, names = clause_by_hand(function, values)
            self.assertEqual(clause_for(function, values), place)
            if place >= 0:
                self.assertEqual(taken(function[5][place][0], values), names)

    def raw(self, rng, deep):
        word, parts, _, _ = rng.choice([each for each in VECTOR_TABLE[3] if deep > 1 or not each[1]])
        return (word, *(self.raw(rng, deep - 1) for _ in parts))


if __name__ == "__main__":
    unittest.main()
