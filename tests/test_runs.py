"""Points 700 to 705: plain runs and runs with looks, where they go wrong, and steps."""

import copy
import random
import unittest

from exactkinds.machine import machine_of
from exactkinds.programs import is_program
from exactkinds.reading import read
from exactkinds.runs import plain, run
from tests.oracle import (
    ALL, AT, MORE, RunByHand, TURNS, TURNS_TABLE, TYPED, TYPED_TABLE, VECTOR_TABLE, all_values, asked_for,
    random_program)
from tests.samples import SMALL, nested, random_table

PLENTY = 100000
ON, OFF, NIL, ZERO = ("On",), ("Off",), ("Nil",), ("Zero",)

# Each function goes wrong in its own way; the calls of them stand deep in bodies.
WRONG_TEXT = """
maker z 0
maker s 1
family Nat
family Even
con Z : -> Nat(z)
con S : Nat(n) -> Nat(s(n))
con E : -> Even(z)
con F : Nat(n), Nat(n), Even(n) -> Even(s(n))
fun keep falls 0 : Nat(n) -> Nat(n)
keep(k) = k
fun less falls 0 : Nat(n) -> Nat(n)
less(Z) = Z
less(S(k)) = k
fun hole falls 0 : Nat(n) -> Nat(n)
hole(Z) = Z
hole(S(S(k))) = S(S(k))
fun both falls 0 : Nat(n), Nat(n) -> Nat(n)
both(a, b) = b
fun same falls 0 : Nat(n), Nat(m) -> Nat(n)
same(Z, b) = Z
same(a, Z) = both(keep(a), S(S(Z)))
same(a, b) = keep(both(keep(b), a))
fun make falls 0 : Nat(n), Nat(m) -> Even(s(n))
make(Z, Z) = F(Z, S(Z), E)
make(a, b) = F(a, b, F(Z, b, E))
fun deep falls 0 : Nat(n) -> Nat(s(s(n)))
deep(Z) = S(S(Z))
deep(S(Z)) = S(S(hole(S(Z))))
deep(S(S(Z))) = S(S(S(less(S(Z)))))
deep(S(S(S(Z)))) = keep(S(S(same(S(S(S(Z))), Z))))
deep(S(k)) = S(deep(k))
"""
WRONG_TABLE, WRONG = read(WRONG_TEXT)


def count(many):
    return nested(many, ("Z",), lambda inside: ("S", inside))


def nat(many):
    return nested(many, ZERO, lambda inside: ("Succ", inside))


def vec(*bits):
    return nested(len(bits), (NIL, list(bits)), lambda rest: (("Cons", rest[1][-1], rest[0]), rest[1][:-1]))[0]


class Case(unittest.TestCase):

    def runs(self, word, values, told, program=WRONG, table=WRONG_TABLE, steps=PLENTY):
        given = copy.deepcopy((table, program, values))
        self.assertEqual(run(table, program, word, values, steps), told)
        self.assertEqual((table, program, values), given)

    def plainly(self, word, values, told, program=WRONG, steps=PLENTY):
        given = copy.deepcopy((program, values))
        self.assertEqual(plain(program, word, values, steps), told)
        self.assertEqual((program, values), given)

    def ends(self, word, values, value, program, table=VECTOR_TABLE):
        self.runs(word, values, ("right", value), program, table)
        self.plainly(word, values, ("end", value), program)


class Values(Case):

    def test_well_made(self):
        self.assertTrue(is_program(WRONG_TABLE, WRONG))

    def test_example(self):
        values = (("Pop", ("Top", ZERO)), ("Cons", OFF, ("Cons", ON, NIL)))
        self.ends("at", values, ON, AT)
        self.ends("at", (("Top", ("Succ", ZERO)), values[1]), OFF, AT)

    def test_bodies_with_calls(self):
        self.ends("map", (vec(ON, OFF, ON),), vec(OFF, ON, OFF), MORE)
        self.ends("zip", (vec(ON, OFF), vec(OFF, ON)), vec(OFF, OFF), MORE)
        self.ends("last", (vec(OFF, OFF, ON),), ON, MORE)
        self.ends("rev", (nat(3), vec(ON, OFF, OFF)), vec(OFF, ON, OFF), MORE)
        self.ends("pick", (nat(2), vec(OFF, OFF, ON)), ON, MORE)
        self.ends("eval", (("Fst", ("Mk", ("IsZ", ("Lit", ("Nought",))), ("Lit", ("No",)))),), ("Yes",), TYPED,
                  TYPED_TABLE)

    def test_group_of_two(self):
        value = ("E",)
        told = ("O", ("E",))
        self.ends("up", (value,), told, TURNS, TURNS_TABLE)
        self.ends("up", (("F", ("O", value)),), ("O", ("F", told)), TURNS, TURNS_TABLE)

    def test_first_clause_that_fits(self):
        self.ends("last", (vec(ON),), ON, MORE)
        self.runs("same", (count(1), count(0)), ("wrong", ("demand", "same", 1, ())))
        self.plainly("same", (count(1), count(0)), ("end", count(2)))

    def test_values_that_are_nested_deep(self):
        self.ends("max", (nat(60),), nested(60, ("Top", ZERO), lambda inside: ("Pop", inside)), MORE)
        self.runs("keep", (count(199),), ("right", count(199)))
        self.runs("same", (count(199), count(199)), ("right", count(199)))
        self.ends("last", (vec(*([OFF] * 149 + [ON])),), ON, MORE)

    def test_values_that_share_their_parts(self):
        pair = nested(12, ("Lit", ("Yes",)), lambda inside: ("Mk", inside, inside))
        self.plainly("wrong", (pair,), ("end", pair), TYPED)


class Looks(Case):

    def test_demand_of_the_first_call(self):
        self.runs("both", (count(1), count(2)), ("wrong", ("demand", "both", -1, ())))
        self.runs("keep", (("E",),), ("wrong", ("demand", "keep", -1, ())))
        self.runs("keep", (("S", ("E",)),), ("wrong", ("demand", "keep", -1, ())))
        self.runs("at", (("Top", ZERO), NIL), ("wrong", ("demand", "at", -1, ())), AT, VECTOR_TABLE)
        self.plainly("both", (count(1), count(2)), ("end", count(2)))
        self.plainly("keep", (("E",),), ("end", ("E",)))

    def test_hole_of_the_first_call(self):
        self.runs("hole", (count(1),), ("wrong", ("hole", "hole", -1, ())))
        self.plainly("hole", (count(1),), ("hole",))
        self.runs("head", (NIL,), ("wrong", ("hole", "head", -1, ())), MORE, VECTOR_TABLE)

    def test_result_of_the_first_call(self):
        self.runs("less", (count(1),), ("wrong", ("result", "less", -1, ())))
        self.runs("less", (count(0),), ("right", count(0)))
        self.plainly("less", (count(1),), ("end", count(0)))
        self.runs("deep", (count(0),), ("right", count(2)))

    def test_make(self):
        self.runs("make", (count(0), count(0)), ("wrong", ("make", "make", 0, ())))
        self.runs("make", (count(0), count(1)), ("wrong", ("make", "make", 1, (2,))))
        self.runs("make", (count(1), count(0)), ("wrong", ("make", "make", 1, ())))
        self.plainly("make", (count(1), count(0)), ("end", ("F", count(1), ("Z",), ("F", ("Z",), ("Z",), ("E",)))))

    def test_demand_in_a_body(self):
        self.runs("same", (count(1), count(0)), ("wrong", ("demand", "same", 1, ())))
        self.runs("same", (count(1), count(3)), ("wrong", ("demand", "same", 2, (0,))))
        self.runs("same", (count(2), count(2)), ("right", count(2)))

    def test_deep_in_bodies(self):
        self.runs("deep", (count(1),), ("wrong", ("hole", "deep", 1, (0, 0))))
        self.runs("deep", (count(2),), ("wrong", ("result", "deep", 2, (0, 0, 0))))
        self.runs("deep", (count(3),), ("wrong", ("demand", "same", 1, ())))
        # The body in which it goes wrong counts, not the first call.
        self.runs("deep", (count(6),), ("wrong", ("demand", "same", 1, ())))
        self.plainly("deep", (count(1),), ("hole",))
        self.plainly("deep", (count(4),), ("end", count(5)))

    def test_result_of_a_call_with_its_own_place(self):
        table, program = read(WRONG_TEXT + """
fun out falls 0 : Nat(n) -> Nat(n)
out(Z) = keep(less(keep(Z)))
out(S(k)) = keep(S(keep(less(keep(S(k))))))
""")
        self.runs("out", (count(0),), ("right", count(0)), program, table)
        self.runs("out", (count(2),), ("wrong", ("result", "out", 1, (0, 0, 0))), program, table)

    def test_order_of_the_looks(self):
        table, program = read(WRONG_TEXT + """
fun first falls 0 : Nat(n) -> Even(s(n))
first(Z) = F(hole(S(Z)), less(S(Z)), E)
first(S(Z)) = F(less(S(Z)), hole(S(Z)), E)
first(S(S(k))) = F(both(Z, less(S(Z))), S(Z), E)
fun none falls 0 : Nat(n), Nat(n) -> Nat(n)
none(S(a), Z) = a
""")
        # From left to right, the parts before the whole.
        self.runs("first", (count(0),), ("wrong", ("hole", "first", 0, (0,))), program, table)
        self.runs("first", (count(1),), ("wrong", ("result", "first", 1, (0,))), program, table)
        self.runs("first", (count(2),), ("wrong", ("result", "first", 2, (0, 1))), program, table)
        # The look at the arguments comes before the choice of the clause.
        self.runs("none", (count(0), count(1)), ("wrong", ("demand", "none", -1, ())), program, table)
        self.runs("none", (count(1), count(1)), ("wrong", ("hole", "none", -1, ())), program, table)
        self.runs("none", (count(1), count(0)), ("wrong", ("demand", "none", -1, ())), program, table)
        self.plainly("none", (count(1), count(0)), ("end", count(0)), program)
        self.plainly("first", (count(2),), ("end", ("F", count(0), count(1), ("E",))), program)


class Steps(Case):

    def exactly(self, word, values, steps, program, table, told):
        """The run ends so with so many steps, and is too long with one less."""
        for given in (steps, steps + 1, PLENTY):
            self.runs(word, values, told, program, table, given)
        if steps:
            for given in {0, steps - 1}:
                self.runs(word, values, ("long",), program, table, given)
                self.plainly(word, values, ("long",), program, given)

    def test_none(self):
        self.runs("keep", (count(1),), ("long",), steps=0)
        self.plainly("keep", (count(1),), ("long",), steps=0)
        # The look at the arguments is ahead of the first step, and the choice of a clause behind it.
        self.runs("keep", (("E",),), ("wrong", ("demand", "keep", -1, ())), steps=0)
        self.runs("hole", (count(1),), ("long",), steps=0)
        self.plainly("hole", (count(1),), ("long",), steps=0)
        self.runs("hole", (count(1),), ("wrong", ("hole", "hole", -1, ())), steps=1)
        self.plainly("hole", (count(1),), ("hole",), steps=1)

    def test_calls_and_constructors(self):
        self.exactly("keep", (count(5),), 1, WRONG, WRONG_TABLE, ("right", count(5)))
        self.exactly("deep", (count(0),), 4, WRONG, WRONG_TABLE, ("right", count(2)))
        self.exactly("at", (("Pop", ("Top", ZERO)), vec(OFF, ON)), 2, AT, VECTOR_TABLE, ("right", ON))
        self.exactly("map", (vec(ON, OFF),), 10, MORE, VECTOR_TABLE, ("right", vec(OFF, ON)))

    def test_steps_and_looks(self):
        # What is made is looked at ahead of its step, and results behind the last one.
        self.exactly("make", (count(0), count(0)), 5, WRONG, WRONG_TABLE, ("wrong", ("make", "make", 0, ())))
        self.exactly("less", (count(1),), 1, WRONG, WRONG_TABLE, ("wrong", ("result", "less", -1, ())))
        self.exactly("same", (count(1), count(3)), 2, WRONG, WRONG_TABLE, ("wrong", ("demand", "same", 2, (0,))))
        self.exactly("deep", (count(1),), 4, WRONG, WRONG_TABLE, ("wrong", ("hole", "deep", 1, (0, 0))))

    def test_long_runs(self):
        # The number of calls doubles with each level.
        table, program = read("""
maker z 0
maker s 1
family Nat
con Z : -> Nat(z)
con S : Nat(n) -> Nat(s(n))
fun both falls 0 : Nat(n), Nat(n) -> Nat(n)
both(a, b) = a
fun many falls 0 : Nat(n) -> Nat(n)
many(Z) = Z
many(S(k)) = S(both(many(k), many(k)))
""")
        self.runs("many", (count(10),), ("right", count(10)), program, table)
        self.plainly("many", (count(12),), ("end", count(12)), program)
        self.runs("many", (count(40),), ("long",), program, table)
        self.plainly("many", (count(40),), ("long",), program)

    def test_steps_as_counted_by_hand(self):
        rng = random.Random(705)
        for table, program in ALL + ((WRONG_TABLE, WRONG),):
            values = all_values(table, 6)
            for function in program[1]:
                rows = asked_for(table, function, values, 400)
                for given in rng.sample(rows, min(8, len(rows))):
                    counted = RunByHand(None, program, 10 ** 6)
                    told = counted.outcome(function[0], given)
                    needed = 10 ** 6 - counted.left
                    self.plainly(function[0], given, told, program, needed)
                    self.plainly(function[0], given, ("long",), program, needed - 1)


class AsTheWordsSay(Case):

    def setUp(self):
        self.seen = []

    def test_samples(self):
        rng = random.Random(700)
        for table, program in ALL + ((WRONG_TABLE, WRONG),):
            values = all_values(table, 7)
            for function in program[1]:
                rows = asked_for(table, function, values, 300)
                for given in rng.sample(rows, min(30, len(rows))):
                    self.compare(table, program, function[0], given, rng)
        self.assertLessEqual({"right", "demand", "hole", "make", "result", "long"}, set(self.seen))

    def test_random_programs(self):
        rng = random.Random(702)
        tables = list(SMALL) + [random_table(rng, 10, lambda one: len(machine_of(one)[1])) for _ in range(20)]
        for _ in range(150):
            table = rng.choice(tables)
            program = random_program(rng, table, 3)
            values = all_values(table, 4)
            every = [pair for row in values.values() for pair in row]
            for function in program[1]:
                rows = asked_for(table, function, values, 60)
                for given in rng.sample(rows, min(5, len(rows))):
                    self.compare(table, program, function[0], given, rng)
                if every:
                    given = tuple(rng.choice(every)[0] for _ in function[1])
                    self.compare(table, program, function[0], given, rng)
        for word in ("right", "demand", "hole", "make", "result", "long"):
            self.assertGreater(self.seen.count(word), 5, word)
        for word in ("demand", "hole", "make", "result"):
            self.assertGreater(self.seen.count(("in a body", word)), 3, word)

    def compare(self, table, program, word, values, rng):
        for steps in (rng.randint(0, 12), 3000):
            told = RunByHand(table, program, steps).outcome(word, values)
            plainly = RunByHand(None, program, steps).outcome(word, values)
            self.runs(word, values, told, program, table, steps)
            self.plainly(word, values, plainly, program, steps)
            if told[0] == "right":
                self.assertEqual(plainly, ("end", told[1]))
            self.seen.append(told[1][0] if told[0] == "wrong" else told[0])
            if told[0] == "wrong" and told[1][2] >= 0:
                self.seen.append(("in a body", told[1][0]))


if __name__ == "__main__":
    unittest.main()
