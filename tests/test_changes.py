"""Points 1100 to 1103: what must be judged again, right functions behind a change, and regions."""

import copy
import random
import unittest

from exactkinds.changes import region, right_behind, to_judge
from exactkinds.judging import judged, right_functions
from exactkinds.languages import vectors
from exactkinds.machine import machine_of, state_of
from exactkinds.programs import calls_of, is_program
from exactkinds.reading import read
from exactkinds.tables import is_table
from exactkinds.writing import write
from tests.oracle import (
    ALL, MORE, VECTOR_TABLE, VECTOR_TEXT, all_values, asked_for, asked_trees, copying, function_in, random_program,
    told_by_hand)
from tests.samples import ALONE, BALANCED, EVEN_ODD, SMALL, random_constructor, random_table

FIRST = read(VECTOR_TEXT + """
fun flip falls 0 : Bit(z) -> Bit(z)
flip(On) = Off
flip(Off) = On
fun map falls 0 : Vec(n) -> Vec(n)
map(Nil) = Nil
map(Cons(x, r)) = Cons(flip(x), map(r))
fun twice falls 0 : Vec(n) -> Vec(n)
twice(w) = map(map(w))
fun drop falls 0 : Vec(n) -> Vec(n)
drop(Cons(x, r)) = r
drop(Nil) = Nil
fun alone falls 0 : Nat(n) -> Nat(n)
alone(k) = k
""")[1]


def with_function(program, word, at, item):
    """The program with another item in the function with a word."""
    return ("program", tuple(
        one[:at] + (item,) + one[at + 1:] if one[0] == word else one for one in program[1]))


class ToJudge(unittest.TestCase):

    def tells(self, newer, words, elder=FIRST):
        given = copy.deepcopy((elder, newer))
        self.assertEqual(to_judge(elder, newer), words)
        self.assertEqual((elder, newer), given)

    def test_nothing_changed(self):
        self.tells(FIRST, ())
        self.tells(("program", ()), ())
        self.tells(("program", ()), (), ("program", ()))

    def test_all_are_new(self):
        self.tells(FIRST, ("flip", "map", "twice", "drop", "alone"), ("program", ()))

    def test_clauses(self):
        self.tells(with_function(FIRST, "flip", 5, function_in(FIRST, "flip")[5][::-1]), ("flip",))
        self.tells(with_function(FIRST, "map", 5, ()), ("map",))
        self.tells(with_function(FIRST, "alone", 5, (((("Zero",),), ("Zero",)),)), ("alone",))

    def test_heads(self):
        # Those that call it directly, and no others.
        self.tells(with_function(FIRST, "flip", 1, (("Bit", "n"),)), ("flip", "map"))
        self.tells(with_function(FIRST, "map", 1, (("Vec", "m"),)), ("map", "twice"))
        self.tells(with_function(FIRST, "map", 3, ("s", "n")), ("map", "twice"))
        self.tells(with_function(FIRST, "map", 2, "Nat"), ("map", "twice"))
        self.tells(with_function(FIRST, "drop", 3, ("z",)), ("drop",))
        two = with_function(FIRST, "flip", 1, (("Bit", ("z",)), ("Bit", ("z",))))
        self.tells(with_function(two, "flip", 4, 1), ("flip", "map"), two)

    def test_words(self):
        renamed = with_function(FIRST, "alone", 0, "other")
        self.tells(renamed, ("other",))
        self.tells(FIRST, ("alone",), renamed)
        # Who calls a function that is new must be judged again, even if all else is the same.
        less = ("program", FIRST[1][1:])
        self.tells(FIRST, ("flip", "map"), less)

    def test_order_of_the_functions(self):
        self.tells(("program", FIRST[1][::-1]), ())
        changed = with_function(FIRST, "flip", 1, (("Bit", "n"),))
        self.tells(("program", changed[1][::-1]), ("map", "flip"))

    def test_functions_that_were_taken_away(self):
        self.tells(("program", FIRST[1][:2]), ())


class RightBehind(unittest.TestCase):

    def tells(self, table, elder, newer):
        machine = machine_of(table)
        right = right_functions(table, machine, elder)
        given = copy.deepcopy((table, machine, elder, right, newer))
        found = right_behind(table, machine, elder, right, newer)
        self.assertEqual((table, machine, elder, right, newer), given)
        self.assertEqual(found, right_functions(table, machine, newer))
        return found

    def test_changes(self):
        fault = with_function(FIRST, "flip", 5, function_in(FIRST, "flip")[5][:1])
        self.assertEqual(self.tells(VECTOR_TABLE, FIRST, fault), ("map", "twice", "alone"))
        self.assertEqual(self.tells(VECTOR_TABLE, fault, FIRST), ("flip", "map", "twice", "alone"))
        head = with_function(FIRST, "map", 3, ("s", "n"))
        self.assertEqual(self.tells(VECTOR_TABLE, FIRST, head), ("flip", "alone"))
        self.assertEqual(self.tells(VECTOR_TABLE, FIRST, ("program", FIRST[1][::-1])), (
            "alone", "twice", "map", "flip"))
        self.assertEqual(self.tells(VECTOR_TABLE, FIRST, FIRST), ("flip", "map", "twice", "alone"))
        self.assertEqual(self.tells(VECTOR_TABLE, ("program", ()), FIRST), ("flip", "map", "twice", "alone"))
        self.assertEqual(self.tells(VECTOR_TABLE, FIRST, ("program", ())), ())

    def test_verdicts_that_are_kept_are_not_looked_for_again(self):
        machine = machine_of(VECTOR_TABLE)
        # What is told of the elder program is believed.
        self.assertEqual(right_behind(VECTOR_TABLE, machine, FIRST, ("drop",), FIRST), ("drop",))
        fault = with_function(FIRST, "flip", 5, ())
        self.assertEqual(right_behind(VECTOR_TABLE, machine, FIRST, ("flip", "drop"), fault), ("drop",))

    def test_random_changes(self):
        rng = random.Random(1101)
        tables = list(SMALL) + [random_table(rng, 8, lambda one: len(machine_of(one)[1])) for _ in range(15)]
        again = kept = 0
        for _ in range(150):
            table = rng.choice(tables)
            elder, other = random_program(rng, table, 4), random_program(rng, table, 4)
            newer = ("program", tuple(rng.choice([one, one, two]) for one, two in zip(elder[1], other[1])))
            if not is_program(table, newer):
                continue
            self.tells(table, elder, newer)
            words = to_judge(elder, newer)
            again += len(words)
            kept += len(newer[1]) - len(words)
            for function in newer[1]:
                heads = [(function_in(elder, word)[:5], function_in(newer, word)[:5])
                         for word in calls_of(newer, function[0])]
                changed = function not in elder[1] or any(one != two for one, two in heads)
                self.assertEqual(function[0] in words, changed)
        self.assertGreater(min(again, kept), 50)


class MoreConstructors(unittest.TestCase):

    def test_function_that_is_not_right_stays_so(self):
        rng = random.Random(1102)
        seen = 0
        for _ in range(200):
            table = rng.choice(SMALL)
            word = "Further"
            more = table[:3] + (table[3] + (random_constructor(rng, table[1], table[2], word),),)
            program = random_program(rng, table, 3)
            if not is_table(more) or not is_program(more, program):
                continue
            before = right_functions(table, machine_of(table), program)
            behind = right_functions(more, machine_of(more), program)
            self.assertLessEqual(set(behind), set(before))
            seen += len(before) - len(behind)
        self.assertGreater(seen, 5)


class Regions(unittest.TestCase):

    def reading(self, text, start):
        table, program = read(write(start, ("program", ())) + text)
        self.assertTrue(is_program(table, program))
        return table, machine_of(table), program

    def tells(self, table, machine, program, word, rows):
        given = copy.deepcopy((table, machine, program))
        self.assertEqual(region(table, machine, program, word), rows)
        self.assertEqual((table, machine, program), given)

    def test_right_at_some_vectors(self):
        table, machine, program = self.reading("""
fun f falls 0 : Bal(n), Bal(m) -> Bal(n)
f(l, r) = r
fun g falls 0 : Bal(n) -> Bal(zero)
g(l) = l
fun h falls 0 : Bal(n) -> Bal(n)
h(Full(l, r)) = Full(r, l)
h(Left(l, Wrap(r))) = Left(l, Wrap(r))
fun k falls 0 : Bal(next(n)) -> Bal(n)
k(Full(Leaf, r)) = r
k(Left(l, r)) = Leaf
""", BALANCED)
        self.tells(table, machine, program, "f", [
            ({"m": 0, "n": 0}, True), ({"m": 0, "n": 1}, False), ({"m": 1, "n": 0}, False), ({"m": 1, "n": 1}, False)])
        self.tells(table, machine, program, "g", [({"n": 0}, True), ({"n": 1}, False)])
        self.tells(table, machine, program, "h", [({"n": 0}, False), ({"n": 1}, True)])
        self.tells(table, machine, program, "k", [({"n": 0}, True), ({"n": 1}, False)])

    def test_vectors_of_the_params_alone(self):
        table, machine, program = self.reading("""
fun f falls 0 : Odd(next(n)), Odd(m) -> Odd(m)
f(O(e), o) = o
fun g falls 0 : Even(n), Odd(n) -> Even(n)
fun h falls 0 : Even(next(next(zero))) -> Even(zero)
h(e) = e
fun k falls 0 : Even(next(next(zero))) -> Even(next(next(zero)))
k(e) = e
fun l falls 0 : Even(next(zero)) -> Even(zero)
""", EVEN_ODD)
        self.tells(table, machine, program, "f", [({"m": 1, "n": 0}, True)])
        self.tells(table, machine, program, "g", [])
        self.tells(table, machine, program, "h", [({}, False)])
        self.tells(table, machine, program, "k", [({}, True)])
        self.tells(table, machine, program, "l", [])

    def test_names_in_the_order_of_strings(self):
        table, machine, program = self.reading("""
fun f falls 0 : One(n9), Nought(n10) -> One(n9)
f(a, b) = a
fun g falls 0 : Nought(b), Nought(a), One(C) -> One(C)
g(x, y, z) = O(x)
""", ALONE)
        self.tells(table, machine, program, "f", [({"n10": 0, "n9": 1}, True)])
        self.tells(table, machine, program, "g", [({"C": 1, "a": 0, "b": 0}, True)])
        self.assertEqual(list(region(table, machine, program, "g")[0][0]), ["C", "a", "b"])

    def test_samples(self):
        for table, program in ALL + ((VECTOR_TABLE, FIRST),):
            machine = machine_of(table)
            right = right_functions(table, machine, program)
            for function in program[1]:
                rows = region(table, machine, program, function[0])
                self.assertEqual(all(one for _, one in rows), function[0] in right)

    def test_hole_at_one_state_alone(self):
        machine = machine_of(VECTOR_TABLE)
        self.tells(VECTOR_TABLE, machine, MORE, "head", [({"n": 0}, False), ({"n": 1}, True)])
        self.tells(VECTOR_TABLE, machine, MORE, "short", [({"n": 0}, True), ({"n": 1}, False)])

    def test_as_the_words_say(self):
        rng = random.Random(1103)
        tables = list(SMALL) + [random_table(rng, 8, lambda one: len(machine_of(one)[1])) for _ in range(20)]
        seen = {True: 0, False: 0, "mixed": 0}
        for _ in range(150):
            table = rng.choice(tables)
            machine = machine_of(table)
            program = random_program(rng, table, 2)
            values = all_values(table, 5)
            right = right_functions(table, machine, program)
            for function in program[1]:
                rows = region(table, machine, program, function[0])
                names = sorted({name for _, term in function[1] for name in self.names(term)})
                self.assertEqual([vector for vector, _ in rows], vectors(machine, names, list(function[1])))
                self.assertEqual(all(one for _, one in rows), function[0] in right)
                told = {tuple(vector.values()): one for vector, one in rows}
                seen["mixed"] += len(set(told.values())) > 1
                for one in told.values():
                    seen[one] += 1
                for given in asked_for(table, function, values, 60):
                    trees = asked_trees(table, function, given)
                    at = tuple(state_of(machine, trees[name]) for name in names)
                    if told_by_hand(table, program, function[0], given):
                        self.assertIs(told[at], False)
        self.assertGreater(min(seen[True], seen[False]), 50)
        self.assertGreater(seen["mixed"], 3)

    def names(self, term):
        return [term] if isinstance(term, str) else [name for part in term[1:] for name in self.names(part)]

    def test_wrong_at_a_vector_by_values(self):
        """Where a function is told not to be right at a vector, some values there are told wrong."""
        rng = random.Random(1104)
        found = wrong = 0
        for _ in range(60):
            table = rng.choice((EVEN_ODD, BALANCED, ALONE, VECTOR_TABLE))
            machine = machine_of(table)
            program = random_program(rng, table, 2)
            values = all_values(table, 7)
            for function in program[1]:
                rows = asked_for(table, function, values, 2000)
                faults = set()
                for given in rows:
                    trees = asked_trees(table, function, given)
                    if told_by_hand(table, program, function[0], given):
                        faults.add(tuple(state_of(machine, trees[name]) for name in sorted(trees)))
                for vector, one in region(table, machine, program, function[0]):
                    if not one:
                        wrong += 1
                        found += tuple(vector.values()) in faults
        # The values are small ones alone, so a few of the wrong vectors may have none among them.
        self.assertGreater(wrong, 50)
        self.assertGreater(found * 10, wrong * 9)

    def test_copies(self):
        for table in SMALL:
            program = copying(table)
            machine = machine_of(table)
            self.assertEqual(judged(table, machine, program), ("let",))
            for function in program[1]:
                states = [state for state, families in enumerate(machine[1]) if function[2] in families]
                self.tells(table, machine, program, function[0], [({"n": state}, True) for state in states])


if __name__ == "__main__":
    unittest.main()
