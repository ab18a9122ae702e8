"""Points 900 to 904: told indices, values that are told right or wrong, findings, and what is let."""

import copy
import random
import time
import unittest

from exactkinds.indices import names_of
from exactkinds.indices import size as size_of
from exactkinds.judging import finding, findings, judged, right_at, right_functions, told, told_index
from exactkinds.languages import vectors
from exactkinds.machine import machine_of, state_of
from exactkinds.pieces import context, pieces
from exactkinds.programs import is_program
from exactkinds.reading import read
from exactkinds.runs import run
from exactkinds.writing import write
from tests.oracle import (
    ALL, AT, BALANCED_TEXT, VECTOR_TABLE, VECTOR_TEXT, all_values, asked_for, asked_trees, belongs, copying,
    function_in, random_program, told_by_hand, told_index_by_hand)
from tests.samples import (
    ALONE, BALANCED, DOUBLING, EVEN_ODD, GREAT, PARITY, SIX, SMALL, chain, fit, index_by_hand, random_table)

Z = ("z",)
ALONE_START, BALANCED_START, TURNS_START, SIX_START, DOUBLING_START, PARITY_START = (
    write(table, ("program", ())) for table in (ALONE, BALANCED, EVEN_ODD, SIX, DOUBLING, PARITY))


def s(term):
    return ("s", term)


class Case(unittest.TestCase):

    def with_clauses(self, text, start=VECTOR_TEXT):
        table, program = read(start + text)
        self.assertTrue(is_program(table, program))
        return table, machine_of(table), program

    def check_piece(self, table, machine, program, word, piece, rows):
        """Check what is found of a piece, against rows of values; return whether it is right."""
        found = finding(table, machine, program, word, piece)
        function = function_in(program, word)
        wrong = [given for given in rows if belongs(piece[1], given) and told_by_hand(table, program, word, given)]
        if found is None:
            self.assertEqual(wrong, [])
            return True
        self.assertIsInstance(found, tuple)
        self.assertTrue(belongs(piece[1], found))
        self.assertIsNotNone(asked_trees(table, function, found))
        fault = told_by_hand(table, program, word, found)
        self.assertIsNotNone(fault)
        self.assertEqual(told(table, program, word, found), fault)
        self.assertEqual(run(table, program, word, found, 3000)[0], "wrong")
        return False

    def check(self, table, program, size, most):
        """Check all that is told of a program; return the list of the words of the functions that are right."""
        given = copy.deepcopy((table, program))
        machine = machine_of(table)
        values = all_values(table, size)
        right = []
        for function in program[1]:
            word = function[0]
            rows = asked_for(table, function, values, most)
            found = pieces(table, machine, function)
            verdicts = [self.check_piece(table, machine, program, word, piece, rows) for piece in found]
            self.assertEqual([one is None for one in findings(table, machine, program, word)], verdicts)
            if all(verdicts):
                right.append(word)
        self.assertEqual(right_functions(table, machine, program), tuple(right))
        verdict = judged(table, machine, program)
        if len(right) == len(program[1]):
            self.assertEqual(verdict, ("let",))
        else:
            word, first, values = verdict
            self.assertEqual(word, "not")
            self.assertEqual(first, next(one[0] for one in program[1] if one[0] not in right))
            self.assertIsNotNone(asked_trees(table, function_in(program, first), values))
            self.assertIsNotNone(told_by_hand(table, program, first, values))
        self.assertEqual((table, program), given)
        return right


class ToldIndices(Case):

    def tells(self, table, program, word, clause, trees, answer):
        given = copy.deepcopy((table, program, trees))
        self.assertEqual(told_index(table, program, word, clause, trees), answer)
        self.assertEqual((table, program, trees), given)

    def test_example(self):
        self.tells(VECTOR_TABLE, AT, "at", 1, {"i": s(Z), "x": Z, "r": Z}, ("demand", ()))
        self.tells(VECTOR_TABLE, AT, "at", 1, {"i": s(Z), "x": Z, "r": s(Z)}, ("index", Z))
        self.tells(VECTOR_TABLE, AT, "at", 0, {"k": s(Z), "x": Z, "r": s(Z)}, ("index", Z))
        self.tells(VECTOR_TABLE, AT, "at", 0, {"k": s(Z), "x": s(s(Z)), "r": s(Z)}, ("index", s(s(Z))))

    def test_ways(self):
        table, _, program = self.with_clauses("""
fun two falls 0 : Vec(n), Vec(n) -> Vec(s(n))
two(v, w) = Cons(On, v)
fun f falls 0 : Vec(n), Vec(n), Bit(z) -> Vec(s(s(n)))
f(v, w, b) = Cons(b, two(two(v, w), Cons(b, w)))
f(v, w, b) = two(Cons(b, v), two(w, Cons(b, v)))
f(v, w, b) = Cons(On, two(Cons(b, Nil), Cons(b, w)))
""")
        for trees, clause, answer in (
                ({"v": Z, "w": Z, "b": Z}, 0, ("index", s(s(s(Z))))),
                ({"v": Z, "w": s(Z), "b": Z}, 0, ("demand", (1, 0))),
                ({"v": Z, "w": Z, "b": s(Z)}, 0, ("make", (1, 1))),
                ({"v": Z, "w": s(Z), "b": s(Z)}, 0, ("demand", (1, 0))),
                ({"v": Z, "w": Z, "b": Z}, 1, ("demand", (1,))),
                ({"v": Z, "w": s(Z), "b": Z}, 1, ("demand", ())),
                ({"v": s(Z), "w": Z, "b": s(Z)}, 1, ("make", (0,))),
                ({"v": s(Z), "w": Z, "b": Z}, 2, ("index", s(s(s(Z))))),
                ({"v": s(Z), "w": s(Z), "b": Z}, 2, ("demand", (1,))),
                ({"v": s(Z), "w": Z, "b": s(Z)}, 2, ("make", (1, 0)))):
            self.tells(table, program, "f", clause, trees, answer)

    def test_no_run_is_asked(self):
        # Of a called function only the head is believed.
        table, _, program = self.with_clauses("""
fun none falls 0 : Nat(n) -> Nat(s(n))
fun f falls 0 : Nat(n) -> Nat(s(s(n)))
f(k) = none(none(k))
""")
        self.tells(table, program, "f", 0, {"k": s(Z)}, ("index", s(s(s(Z)))))

    def test_as_the_words_say(self):
        rng = random.Random(900)
        words = []
        for table, program in ALL:
            trees = [tree for row in all_values(table, 5).values() for _, tree in row]
            for function in program[1]:
                for clause, (patterns, body) in enumerate(function[5]):
                    for _ in range(8):
                        given = {name: rng.choice(trees) for pattern in patterns for name in names_of(pattern)}
                        answer = told_index_by_hand(table, program, body, given)
                        words.append(answer[0])
                        self.tells(table, program, function[0], clause, given, answer)
        self.assertGreater(min(words.count(word) for word in ("index", "make", "demand")), 20)


class Told(Case):

    def test_words(self):
        table, _, program = self.with_clauses("""
fun f falls 0 : Vec(n), Vec(n) -> Vec(n)
f(Nil, w) = w
f(Cons(On, Nil), w) = Nil
f(Cons(Off, Nil), Cons(x, r)) = g(keep(r), Cons(x, r))
f(Cons(x, Cons(On, r)), w) = Cons(h(w), Cons(On, r))
f(Cons(x, Cons(y, r)), Cons(On, q)) = Cons(x, q)
fun g falls 0 : Vec(n), Vec(n) -> Vec(n)
g(v, w) = v
fun keep falls 0 : Vec(n) -> Vec(n)
keep(v) = v
fun h falls 0 : Vec(n) -> Bit(z)
h(v) = On
""")
        on, off, nil = ("On",), ("Off",), ("Nil",)

        def vec(*bits):
            return ("Cons", bits[0], vec(*bits[1:])) if bits else nil

        for values, answer in (((nil, nil), None), ((vec(on), vec(off)), ("result", ())),
                               ((vec(off), vec(off)), ("demand", ())), ((vec(on, on), vec(off, off)), None),
                               ((vec(on, off), vec(off, off)), ("hole", ())),
                               ((vec(on, off), vec(on, off)), None)):
            self.assertEqual(told(table, program, "f", values), answer)

    def test_make(self):
        table, _, program = self.with_clauses("""
fun put falls 0 : Bal(n), Bal(m) -> Bal(next(n))
put(l, r) = Full(l, r)
fun in falls 0 : Bal(n), Bal(m) -> Bal(next(next(n)))
in(l, r) = Full(Full(l, l), Full(l, r))
""", BALANCED_TEXT)
        leaf = ("Leaf",)
        full = ("Full", leaf, leaf)
        self.assertIsNone(told(table, program, "put", (leaf, leaf)))
        self.assertEqual(told(table, program, "put", (leaf, full)), ("make", ()))
        self.assertEqual(told(table, program, "in", (leaf, full)), ("make", (1,)))
        self.assertEqual(told(table, program, "in", (full, ("Full", leaf, leaf))), None)

    def test_names_that_a_clause_does_not_use(self):
        machine = machine_of(VECTOR_TABLE)
        at = AT[1][0]
        for piece in pieces(VECTOR_TABLE, machine, at):
            self.assertIsNone(finding(VECTOR_TABLE, machine, AT, "at", piece))

    def test_as_the_words_say(self):
        words = []
        rng = random.Random(901)
        for table, program in list(ALL) + [(table, random_program(rng, table, 3)) for table in SMALL]:
            values = all_values(table, 6)
            for function in program[1]:
                for given in asked_for(table, function, values, 150):
                    answer = told_by_hand(table, program, function[0], given)
                    words.append(answer[0] if answer else None)
                    self.assertEqual(told(table, program, function[0], given), answer)
                    # Values that are told wrong have a wrong run.
                    if answer is not None:
                        self.assertEqual(run(table, program, function[0], given, 3000)[0], "wrong")
        self.assertLessEqual({None, "hole", "make", "demand", "result"}, set(words))


class Judging(Case):

    def test_example(self):
        machine = machine_of(VECTOR_TABLE)
        given = copy.deepcopy((VECTOR_TABLE, machine, AT))
        self.assertEqual(judged(VECTOR_TABLE, machine, AT), ("let",))
        self.assertEqual((VECTOR_TABLE, machine, AT), given)

    def test_samples(self):
        rights = [self.check(table, program, 7, 200) for table, program in ALL]
        self.assertEqual(rights, [
            ["at"], ["flip", "map", "zip", "last", "rev", "max", "pick", "at"],
            ["eval", "choose", "first", "isz", "same", "swap"], ["up", "down", "half"], ["flip", "deep", "twice"]])

    def test_nothing_in_it(self):
        self.assertEqual(judged(EVEN_ODD, machine_of(EVEN_ODD), ("program", ())), ("let",))
        self.assertEqual(right_functions(EVEN_ODD, machine_of(EVEN_ODD), ("program", ())), ())

    def test_function_that_no_values_reach(self):
        # However wrong the clause is, no values bring it about.
        table, machine, program = self.with_clauses("""
fun f falls 0 : Even(n), Odd(n) -> Even(next(n))
f(a, b) = a
fun g falls 0 : Even(n), Odd(n) -> Even(n)
""", TURNS_START)
        self.assertEqual(judged(table, machine, program), ("let",))
        self.assertEqual(findings(table, machine, program, "f"), [])

    def test_dangers_that_no_values_bring_about(self):
        table, machine, program = self.with_clauses("""
fun f falls 0 : Even(n), Even(next(m)) -> Even(n)
f(E, x) = E
f(F(O(e)), F(O(E))) = F(O(e))
f(F(O(e)), F(O(F(o)))) = F(O(f(e, F(O(F(o))))))
fun g falls 0 : Even(n) -> Odd(next(n))
g(E) = O(E)
g(F(o)) = O(F(h(o)))
fun h falls 0 : Odd(n) -> Odd(n)
h(O(e)) = O(e)
""", TURNS_START)
        self.assertEqual(self.check(table, program, 8, 200), ["f", "g", "h"])

    def test_wrong_for_one_piece_alone(self):
        table, machine, program = self.with_clauses("""
fun f falls 0 : Vec(n) -> Vec(n)
f(Nil) = Nil
f(Cons(On, r)) = Cons(Off, r)
f(Cons(Off, Cons(Off, r))) = Cons(Off, r)
f(Cons(Off, Cons(x, Cons(y, r)))) = Cons(x, Cons(y, Cons(Off, r)))
f(Cons(Off, r)) = Cons(Off, r)
""")
        self.assertEqual(self.check(table, program, 8, 400), [])
        found = pieces(table, machine, program[1][0])
        wrong = [piece for piece in found if finding(table, machine, program, "f", piece) is not None]
        self.assertEqual(wrong, [(2, (("Cons", ("Off",), ("Cons", ("Off",), "v0")),))])

    def test_wrong_for_one_vector_alone(self):
        # The result is right where n is the one tree of its state.
        table, machine, program = self.with_clauses("""
fun f falls 0 : Bal(n), Bal(m) -> Bal(n)
f(l, r) = r
fun g falls 0 : Bal(n) -> Bal(zero)
g(l) = l
""", BALANCED_START)
        self.assertEqual(self.check(table, program, 7, 200), [])
        piece, = pieces(table, machine, program[1][0])
        told_at = {tuple(vector.values()): right_at(table, machine, program, "f", piece, vector)
                   for vector in vectors(machine, ["i0", "i1"], [("Bal", "i0"), ("Bal", "i1")])}
        self.assertEqual(told_at, {(0, 0): True, (0, 1): False, (1, 0): False, (1, 1): False})
        piece, = pieces(table, machine, program[1][1])
        self.assertIs(right_at(table, machine, program, "g", piece, {"i0": 0}), True)
        self.assertIs(right_at(table, machine, program, "g", piece, {"i0": 1}), False)

    def test_right_by_single_states(self):
        # Nought holds at zero alone, and One at next(zero) alone.
        table, machine, program = self.with_clauses("""
fun f falls 0 : Nought(n), Nought(m) -> Nought(n)
f(a, b) = b
fun g falls 0 : Nought(n), One(m) -> One(next(n))
g(a, b) = b
fun h falls 0 : One(next(n)) -> Nought(zero)
h(O(a)) = a
fun k falls 0 : One(m), Nought(n) -> One(m)
k(a, b) = O(b)
fun l falls 0 : One(m), Nought(n) -> One(m)
l(a, b) = k(O(b), f(b, b))
""", ALONE_START)
        self.assertEqual(self.check(table, program, 4, 50), ["f", "g", "h", "k", "l"])

    def test_right_as_names_are_opened(self):
        # An index where Odd holds has the maker next, and one where D holds is a pair of pairs.
        table, machine, program = self.with_clauses("""
fun pred falls 0 : Odd(next(n)) -> Even(n)
pred(O(e)) = e
fun f falls 0 : Odd(n) -> Even(zero)
f(o) = end(o, pred(o))
fun end falls 0 : Odd(next(m)), Even(m) -> Even(zero)
end(o, e) = E
fun three falls 0 : Odd(next(next(next(n)))) -> Odd(next(n))
three(O(F(O(e)))) = O(e)
fun g falls 0 : Odd(n) -> Odd(next(zero))
g(o) = three(O(F(o)))
""", TURNS_START)
        self.assertEqual(self.check(table, program, 8, 100), ["pred", "f", "end", "three"])
        self.assertEqual(judged(table, machine, program)[:2], ("not", "g"))
        table, machine, program = self.with_clauses("""
maker zero 0
maker pair 2
family A
family B
family C
con Z : -> A(zero)
con P : A(m), A(n) -> B(pair(m, n))
con Q : B(m), B(n) -> C(pair(m, n))
fun left falls 0 : C(pair(pair(a, b), pair(c, d))) -> B(pair(a, b))
left(Q(x, y)) = x
fun f falls 0 : C(n) -> B(pair(zero, zero))
f(x) = left(x)
fun g falls 0 : C(pair(m, n)) -> B(m)
g(x) = left(x)
fun h falls 0 : C(pair(m, n)) -> B(n)
h(Q(x, y)) = left(Q(y, x))
fun k falls 0 : C(n) -> C(pair(pair(zero, zero), pair(zero, zero)))
k(x) = Q(left(x), h(x))
""", "")
        self.assertEqual(self.check(table, program, 8, 100), ["left", "f", "g", "h", "k"])

    def test_indices_that_hang_together(self):
        table, machine, program = self.with_clauses("""
fun none falls 0 : Same(pair(a, b)), Diff(pair(b, c)), Same(pair(a, c)) -> Even(a)
fun f falls 0 : Diff(pair(a, b)), Same(pair(b, next(zero))) -> Even(a)
f(DE(x, y), z) = x
fun g falls 0 : Diff(pair(a, b)), Same(pair(b, c)) -> Diff(pair(b, a))
g(DE(x, y), z) = DO(y, x)
g(DO(x, y), SE(z, w)) = DE(y, x)
fun h falls 0 : Diff(pair(a, b)), Diff(pair(c, d)) -> Diff(pair(a, d))
h(DE(x, y), DE(z, w)) = DE(x, w)
h(DO(x, y), DO(z, w)) = DO(x, w)
h(x, y) = k(x, y)
fun k falls 0 : Diff(pair(a, b)), Diff(pair(c, d)) -> Diff(pair(a, d))
""", PARITY_START)
        self.assertEqual(self.check(table, program, 6, 200), ["none", "f", "g", "h"])
        self.assertEqual(judged(table, machine, program)[:2], ("not", "k"))

    def test_opened_in_some_cases_alone(self):
        table, machine, program = self.with_clauses("""
fun pred falls 0 : Even(next(n)) -> Odd(n)
pred(F(o)) = o
fun f falls 0 : Even(n) -> Odd(next(zero))
f(e) = one(pred(e))
fun one falls 0 : Odd(n) -> Odd(next(zero))
one(o) = O(E)
""", TURNS_START)
        self.assertEqual(self.check(table, program, 8, 100), ["pred", "one"])
        self.assertEqual(judged(table, machine, program), ("not", "f", (("E",),)))

    def test_wrong_for_values_far_away_from_the_least_ones(self):
        # A and B hold together at zero, and then only at six times next: all smaller values are right.
        table, machine, program = self.with_clauses("""
fun f falls 0 : A(n), B(n) -> A(zero)
f(x, y) = g(x, y)
fun g falls 0 : A(zero), B(n) -> A(zero)
g(x, y) = x
fun h falls 0 : C(n), D(n), A(m) -> A(m)
h(x, y, z) = k(x, y, z)
fun k falls 0 : C(n), D(n), A(m) -> A(m)
k(x, y, ZA) = ZA
k(x, y, z) = z
""", SIX_START)
        verdict = judged(table, machine, program)
        self.assertEqual(verdict[:2], ("not", "f"))
        self.assertEqual(asked_trees(table, program[1][0], verdict[2]), {"n": chain(6)})
        self.assertEqual(told_by_hand(table, program, "f", verdict[2]), ("demand", ()))
        self.assertEqual(right_functions(table, machine, program), ("g", "h", "k"))
        # Of a table with the chains alone, the values are those of the numbers.
        table, machine, program = self.with_clauses("""
fun f falls 0 : D(pair(m, n)), D(pair(k, l)) -> D(pair(m, n))
f(CD(x, y), z) = z
""", DOUBLING_START)
        word, _, (one, other) = judged(table, machine, program)
        self.assertEqual(word, "not")
        self.assertNotEqual(asked_trees(table, program[1][0], (one, other)), None)
        self.assertGreater(size_of(index_by_hand(table, one)[1]) + size_of(index_by_hand(table, other)[1]), 40)

    def test_called_function_that_is_wrong(self):
        table, machine, program = self.with_clauses("""
fun f falls 0 : Vec(n) -> Vec(n)
f(v) = g(v)
fun g falls 0 : Vec(n) -> Vec(n)
g(Cons(x, r)) = Cons(x, r)
""")
        self.assertEqual(self.check(table, program, 6, 100), ["f"])
        self.assertEqual(judged(table, machine, program), ("not", "g", (("Nil",),)))

    def test_hole_alone(self):
        table, machine, program = self.with_clauses("fun f falls 0 : Fin(n), Vec(n) -> Bit(z)\n")
        found, = findings(table, machine, program, "f")
        self.assertIsNotNone(asked_trees(table, program[1][0], found))
        piece, = pieces(table, machine, program[1][0])
        self.assertIs(right_at(table, machine, program, "f", piece, {"i0": 1}), False)

    def test_copies_of_all_samples(self):
        # Functions that take each value apart and put it together again.
        for table in SMALL + (GREAT,):
            program = copying(table)
            self.assertTrue(is_program(table, program))
            self.assertEqual(judged(table, machine_of(table), program), ("let",))

    def test_copies_with_one_clause_that_is_wrong(self):
        rng = random.Random(904)
        seen = 0
        for table in SMALL:
            program = copying(table)
            for at, function in enumerate(program[1]):
                if len(function[5]) < 2:
                    continue
                clauses = list(function[5])
                one, other = rng.sample(range(len(clauses)), 2)
                clauses[one] = (clauses[one][0], clauses[other][1]) if len(clauses[other][1]) == 1 else clauses[one]
                del clauses[other]
                changed = program[1][:at] + (function[:5] + (tuple(clauses),),) + program[1][at + 1:]
                if is_program(table, ("program", changed)):
                    seen += function[0] not in self.check(table, ("program", changed), 5, 60)
        self.assertGreater(seen, 5)


class AsTheWordsSay(Case):

    def test_random_programs(self):
        rng = random.Random(902)
        right = wrong = 0
        tables = list(SMALL) + [random_table(rng, 10, lambda one: len(machine_of(one)[1])) for _ in range(40)]
        for _ in range(120):
            table = rng.choice(tables)
            program = random_program(rng, table, 3)
            found = self.check(table, program, 5, 60)
            right += len(found)
            wrong += len(program[1]) - len(found)
        self.assertGreater(min(right, wrong), 50)

    def test_what_is_let_runs_right(self):
        rng = random.Random(903)
        seen = 0
        programs = [(table, program) for table, program in ALL]
        for _ in range(400):
            table = rng.choice(SMALL)
            programs.append((table, random_program(rng, table, 3)))
        programs += [(table, copying(table)) for table in SMALL]
        for table, program in programs:
            machine = machine_of(table)
            right = right_functions(table, machine, program)
            kept = ("program", tuple(one for one in program[1] if one[0] in right))
            if not is_program(table, kept):
                continue
            self.assertEqual(judged(table, machine, kept), ("let",))
            values = all_values(table, 6)
            for function in kept[1]:
                for given in asked_for(table, function, values, 150):
                    seen += 1
                    self.assertEqual(run(table, kept, function[0], given, 10000)[0], "right")
        self.assertGreater(seen, 1000)

    def test_right_at_vectors(self):
        rng = random.Random(905)
        seen = [0, 0]
        tables = list(SMALL) + [random_table(rng, 6, lambda one: len(machine_of(one)[1])) for _ in range(20)]
        for _ in range(150):
            table = rng.choice(tables)
            machine = machine_of(table)
            program = random_program(rng, table, 2)
            values = all_values(table, 5)
            for function in program[1]:
                rows = asked_for(table, function, values, 80)
                for piece in pieces(table, machine, function):
                    self.check_vectors(table, machine, program, function, piece, rows, seen)
        self.assertGreater(min(seen), 60)

    def check_vectors(self, table, machine, program, function, piece, rows, seen):
        params, places = context(table, function, piece[1])
        names = list(dict.fromkeys(name for term in list(params) + [term for _, term in places]
                                   for name in names_of(term)))
        found = vectors(machine, names, list(places))
        told_at = [right_at(table, machine, program, function[0], piece, vector) for vector in found[:30]]
        for one in told_at:
            seen[one] += 1
        if len(found) <= 30:
            # A piece is right exactly if it is right at all vectors.
            whole = finding(table, machine, program, function[0], piece) is None
            self.assertIs(whole, all(told_at))
        for given in rows:
            if belongs(piece[1], given) and told_by_hand(table, program, function[0], given):
                trees = asked_trees(table, function, given)
                inner = {}
                for (_, term), shape in zip(function[1], params):
                    fit(shape, self.put(term, trees), inner)
                places_told = self.place_trees(table, piece[1], given)
                for (_, term), tree in zip(places, places_told):
                    fit(term, tree, inner)
                states = {name: state_of(machine, tree) for name, tree in inner.items()}
                self.assertIs(right_at(table, machine, program, function[0], piece, states), False)

    def put(self, term, trees):
        return trees[term] if isinstance(term, str) else (term[0], *(self.put(part, trees) for part in term[1:]))

    def place_trees(self, table, skeleton, given):
        inner = {}
        for pattern, value in zip(skeleton, given):
            fit(pattern, value, inner)
        return [index_by_hand(table, inner[f"v{at}"])[1] for at in range(len(inner))]


class Times(Case):

    def test_great_table(self):
        program = copying(GREAT)
        machine = machine_of(GREAT)
        self.assertEqual(len(machine[1]), 16)
        begun = time.time()
        self.assertEqual(judged(GREAT, machine, program), ("let",))
        rng = random.Random(16)
        for _ in range(10):
            program = random_program(rng, GREAT, 12)
            right = right_functions(GREAT, machine, program)
            for function in program[1]:
                self.assertEqual(function[0] in right,
                                 not any(findings(GREAT, machine, program, function[0])))
        self.assertLess(time.time() - begun, 30)

    def test_many_states_for_many_names(self):
        # Three indices hang together only by the call; very many states are possible for them.
        params = (("A", ("p", "a", "b")), ("D", ("q", "b", "c")), ("D", ("q", "d", "a")))
        call = ("f", params, "A", ("p", "a", "b"), 0, ((("x", "y", "w"), ("g", "x", "y", "w")),))
        good = ("g", params, "A", ("p", "a", "b"), 0, ((("x", "y", "w"), "x"),))
        bad = good[:3] + (("p", "b", "a"),) + good[4:]
        machine = machine_of(GREAT)
        begun = time.time()
        self.assertEqual(judged(GREAT, machine, ("program", (call, good))), ("let",))
        self.assertEqual(right_functions(GREAT, machine, ("program", (call, bad))), ())
        self.assertLess(time.time() - begun, 5)


if __name__ == "__main__":
    unittest.main()
