"""Points 1000 to 1004: papers that a program is let or not, and what is accepted."""

import copy
import itertools
import random
import time
import unittest

from exactkinds.judging import judged, right_functions
from exactkinds.machine import into, machine_of, second
from exactkinds.papers import accepts, paper
from exactkinds.pieces import context
from exactkinds.programs import is_program
from exactkinds.proving import Prover
from exactkinds.reading import read
from exactkinds.upholding import is_formed, is_model
from exactkinds.values import is_raw
from exactkinds.writing import write
from tests.oracle import (
    ALL, AT, VECTOR_TABLE, asked_trees, copying, random_program, told_by_hand)
from tests.samples import (
    ALONE, ANYTHING, DOUBLING, EVEN_ODD, GREAT, LATE, PARITY, SMALL, nested, random_table)

VECTOR_MACHINE = machine_of(VECTOR_TABLE)
TURNS_MACHINE = machine_of(EVEN_ODD)
END = ("end",)
CLASH = ("clash",)
AT_PAPER = ("let", VECTOR_MACHINE, (("split", 0, (
    ("split", 1, (CLASH, ("body", 0, END))), ("split", 1, (CLASH, ("body", 1, END))))),))


class ByHand:
    """Points 1000 to 1003, with the terms put in at once."""

    def __init__(self, table, program):
        self.table = table
        self.program = program

    def accepts(self, value):
        if not isinstance(value, tuple) or len(value) != 3:
            return False
        if value[0] == "not":
            found = [one for one in self.program[1] if one[0] == value[1]]
            if not found or not isinstance(value[2], tuple) or len(value[2]) != len(found[0][1]):
                return False
            if not all(is_raw(self.table, one) for one in value[2]):
                return False
            return (asked_trees(self.table, found[0], value[2]) is not None
                    and told_by_hand(self.table, self.program, value[1], value[2]) is not None)
        if value[0] != "let" or not is_formed(self.table, value[1]) or not is_model(self.table, value[1]):
            return False
        self.machine = value[1]
        self.single = [second(self.machine, state) is None for state in range(len(self.machine[1]))]
        if not isinstance(value[2], tuple) or len(value[2]) != len(self.program[1]):
            return False
        return all(self.tree(function, tuple(f"v{at}" for at in range(len(function[1]))), tree)
                   for function, tree in zip(self.program[1], value[2]))

    def tree(self, function, skeleton, tree):
        if not isinstance(tree, tuple) or tree[:1] not in (("split",), ("clash",), ("dead",), ("body",)):
            return False
        if tree[0] == "split":
            return len(tree) == 3 and self.split(function, skeleton, tree[1], tree[2])
        told = context(self.table, function, skeleton)
        if tree[0] == "clash":
            return len(tree) == 1 and told is None
        if told is None:
            return False
        if tree[0] == "dead":
            return len(tree) == 2 and self.cases(told, {}, {}, tree[1], None)
        if len(tree) != 3 or type(tree[1]) is not int or not 0 <= tree[1] < len(function[5]):
            return False
        for at, (patterns, _) in enumerate(function[5][:tree[1] + 1]):
            meeting = [one for both in zip(patterns, skeleton) for one in self.meet(*both)]
            if ("clash" in meeting) != (at < tree[1]) or (at == tree[1] and meeting):
                return False
        return self.cases(told, {}, {}, tree[2], (function, function[5][tree[1]], skeleton))

    def meet(self, pattern, shape):
        if isinstance(pattern, str):
            return []
        if isinstance(shape, str):
            return ["open"]
        if pattern[0] != shape[0]:
            return ["clash"]
        return [one for both in zip(pattern[1:], shape[1:]) for one in self.meet(*both)]

    def split(self, function, skeleton, at, trees):
        name = f"v{at}"
        families = {}
        for pattern, (family, _) in zip(skeleton, function[1]):
            self.families(pattern, family, families)
        if type(at) is not int or name not in families or not isinstance(trees, tuple):
            return False
        made = [one for one in self.table[3] if one[2] == families[name]]
        if len(made) != len(trees):
            return False
        for (word, parts, _, _), tree in zip(made, trees):
            counter = itertools.count()

            def renamed(pattern):
                if pattern == name:
                    return (word, *(f"v{next(counter)}" for _ in parts))
                if isinstance(pattern, str):
                    return f"v{next(counter)}"
                return (pattern[0], *(renamed(part) for part in pattern[1:]))

            if not self.tree(function, tuple(renamed(pattern) for pattern in skeleton), tree):
                return False
        return True

    def families(self, pattern, family, found):
        if isinstance(pattern, str):
            found[pattern] = family
        else:
            for part, (inner, _) in zip(pattern[1:], next(one for one in self.table[3] if one[0] == pattern[0])[1]):
                self.families(part, inner, found)

    def whole(self, term, terms):
        if isinstance(term, str):
            return self.whole(terms[term], terms) if term in terms else term
        return (term[0], *(self.whole(part, terms) for part in term[1:]))

    def state(self, term, states):
        if isinstance(term, str):
            return states.get(term)
        parts = tuple(self.state(part, states) for part in term[1:])
        return next((state for maker, each, state in self.machine[2] if (maker, each) == (term[0], parts)), None)

    def cases(self, told, states, terms, cases, end):
        if not isinstance(cases, tuple) or not cases:
            return False
        names = {name for term in list(told[0]) + [term for _, term in told[1]] for name in self.names(term)}
        if cases == END:
            return end is not None and self.ends(told, states, terms, *end)
        if cases[0] == "never" and len(cases) == 2:
            if type(cases[1]) is not int or not 0 <= cases[1] < len(told[1]):
                return False
            family, term = told[1][cases[1]]
            state = self.state(self.whole(term, terms), states)
            return state is not None and family not in self.machine[1][state]
        if cases[0] not in ("states", "steps") or len(cases) != 3:
            return False
        _, name, rows = cases
        if not isinstance(name, str) or not isinstance(rows, tuple):
            return False
        if cases[0] == "states":
            if name not in names or name in states or name in terms or len(rows) != len(self.machine[1]):
                return False
            return all(self.cases(told, {**states, name: state}, terms, row, end) for state, row in enumerate(rows))
        if name not in states:
            return False
        steps = into(self.machine, states[name])
        rest = {one: state for one, state in states.items() if one != name}
        return len(rows) == len(steps) and all(
            self.cases(told, {**rest, **{f"{name}.{at}": part for at, part in enumerate(parts, start=1)}},
                       {**terms, name: (maker, *(f"{name}.{at}" for at in range(1, len(parts) + 1)))}, row, end)
            for (maker, parts), row in zip(steps, rows))

    def names(self, term):
        return [term] if isinstance(term, str) else [name for part in term[1:] for name in self.names(part)]

    def same(self, one, other, states):
        state = self.state(one, states)
        if state is not None and self.single[state] and state == self.state(other, states):
            return True
        if isinstance(one, str) or isinstance(other, str):
            return one == other
        return one[0] == other[0] and all(self.same(*both, states) for both in zip(one[1:], other[1:]))

    def fit(self, pattern, term, found, states):
        if isinstance(pattern, str):
            return self.same(found.setdefault(pattern, term), term, states)
        return not isinstance(term, str) and pattern[0] == term[0] and all(
            self.fit(*both, found, states) for both in zip(pattern[1:], term[1:]))

    def put(self, term, found):
        return found[term] if isinstance(term, str) else (term[0], *(self.put(part, found) for part in term[1:]))

    def ends(self, told, states, terms, function, clause, skeleton):
        params, places = told
        inner = {}

        def index(shape):
            if isinstance(shape, str):
                return self.whole(places[int(shape[1:])][1], terms)
            _, kinds, _, made = next(one for one in self.table[3] if one[0] == shape[0])
            found = {}
            for (_, term), part in zip(kinds, shape[1:]):
                assert self.fit(term, index(part), found, {})
            return self.put(made, found)

        def take(pattern, shape):
            if isinstance(pattern, str):
                inner[pattern] = index(shape)
            else:
                for both in zip(pattern[1:], shape[1:]):
                    take(*both)

        for both in zip(clause[0], skeleton):
            take(*both)

        def reckon(body):
            if isinstance(body, str):
                return inner[body]
            parts = [reckon(part) for part in body[1:]]
            head = next((one[1], one[3]) for one in self.table[3] + self.program[1] if one[0] == body[0])
            found = {}
            if None in parts or not all(self.fit(term, part, found, states) for (_, term), part in zip(head[0], parts)):
                return None
            return self.put(head[1], found)

        made = reckon(clause[1])
        names = {}
        for (_, term), param in zip(function[1], params):
            self.fit(term, self.whole(param, terms), names, states)
        return made is not None and self.same(self.put(function[3], names), made, states)


def paths_in(value):
    found = [()]
    if isinstance(value, tuple):
        for at, item in enumerate(value):
            found += [(at, *path) for path in paths_in(item)]
    return found


def item_at(value, path):
    return item_at(value[path[0]], path[1:]) if path else value


def exchanged(value, path, item):
    if not path:
        return item
    return value[:path[0]] + (exchanged(value[path[0]], path[1:], item),) + value[path[0] + 1:]


class Case(unittest.TestCase):

    def taken(self, table, program, value, answer=True):
        self.assertIs(ByHand(table, program).accepts(value), answer)
        self.assertIs(accepts(table, program, value), answer, value)

    def refused(self, table, program, value):
        self.taken(table, program, value, False)

    def reading(self, text, start):
        table, program = read(write(start, ("program", ())) + text)
        self.assertTrue(is_program(table, program))
        return table, machine_of(table), program


class Made(Case):

    def check(self, table, program):
        machine = machine_of(table)
        given = copy.deepcopy((table, machine, program))
        found = paper(table, machine, program)
        self.assertEqual((table, machine, program), given)
        self.assertEqual(found[0], judged(table, machine, program)[0])
        self.taken(table, program, found)
        self.assertEqual((table, program), (given[0], given[2]))
        if found[0] == "let":
            self.assertEqual(found[1], machine)
        return found

    def test_samples(self):
        for table, program in ALL:
            self.check(table, program)
            right = right_functions(table, machine_of(table), program)
            kept = ("program", tuple(one for one in program[1] if one[0] in right))
            self.assertEqual(self.check(table, kept)[0], "let")
        self.assertEqual(self.check(VECTOR_TABLE, AT), AT_PAPER)

    def test_nothing_in_it(self):
        for table in SMALL:
            self.assertEqual(self.check(table, ("program", ())), ("let", machine_of(table), ()))

    def test_copies(self):
        for table in SMALL + (GREAT,):
            self.assertEqual(self.check(table, copying(table))[0], "let")

    def test_random_programs(self):
        rng = random.Random(1004)
        tables = list(SMALL) + [random_table(rng, 10, lambda one: len(machine_of(one)[1])) for _ in range(40)]
        words = []
        for _ in range(250):
            table = rng.choice(tables)
            program = random_program(rng, table, 3)
            words.append(self.check(table, program)[0])
            right = right_functions(table, machine_of(table), program)
            kept = ("program", tuple(one for one in program[1] if one[0] in right))
            if is_program(table, kept):
                words.append(self.check(table, kept)[0])
        self.assertGreater(min(words.count("let"), words.count("not")), 60)

    def test_all_kinds_of_cases(self):
        for text, start in ((OPENED, EVEN_ODD), (SINGLES, ALONE), (PAIRED, DOUBLING), (HUNG, PARITY),
                            (BOTH, NEXT)):
            table, _, program = self.reading(text, start)
            found = self.check(table, program)
            self.assertEqual(found[0], "let")
            self.assertLess(len(paths_in(found)), 3000)

    def test_great_table(self):
        machine = machine_of(GREAT)
        params = (("A", ("p", "a", "b")), ("D", ("q", "b", "c")), ("D", ("q", "d", "a")))
        program = ("program", (
            ("f", params, "A", ("p", "a", "b"), 0, ((("x", "y", "w"), ("g", "x", "y", "w")),)),
            ("g", params, "A", ("p", "a", "b"), 0, ((("x", "y", "w"), "x"),))) + copying(GREAT)[1])
        begun = time.time()
        found = paper(GREAT, machine, program)
        self.assertIs(accepts(GREAT, program, found), True)
        self.assertEqual(found[0], "let")
        self.assertLess(time.time() - begun, 10)


OPENED = """
fun f falls 0 : Odd(n) -> Even(zero)
f(o) = end(o, pred(o))
fun pred falls 0 : Odd(next(n)) -> Even(n)
pred(O(e)) = e
fun end falls 0 : Odd(next(m)), Even(m) -> Even(zero)
end(o, e) = E
fun dead falls 0 : Even(n), Odd(n) -> Odd(zero)
dead(a, b) = b
fun late falls 0 : Even(n), Even(next(next(m))) -> Even(n)
late(E, x) = E
late(F(O(e)), F(O(F(o)))) = F(O(late(e, F(O(F(o))))))
late(F(O(e)), F(O(E))) = F(O(e))
late(x, y) = y
"""
SINGLES = """
fun f falls 0 : Nought(n), Nought(m) -> Nought(n)
f(a, b) = b
fun g falls 0 : Nought(n), One(m) -> One(next(n))
g(a, b) = b
fun h falls 0 : One(next(n)) -> Nought(zero)
h(O(a)) = a
fun k falls 0 : One(m), Nought(n) -> One(m)
k(a, b) = O(f(b, h(a)))
"""
PAIRED = """
fun left falls 0 : C(pair(pair(a, b), pair(c, d))) -> B(pair(a, b))
left(BC(x, y)) = x
fun f falls 0 : C(n), A(m) -> C(n)
f(x, y) = x
fun g falls 0 : C(pair(m, n)) -> B(m)
g(x) = left(x)
fun h falls 0 : C(pair(m, n)) -> B(n)
h(BC(x, y)) = left(BC(y, x))
fun k falls 0 : C(pair(m, n)) -> C(pair(n, m))
k(x) = BC(h(x), left(x))
"""
HUNG = """
fun none falls 0 : Same(pair(a, b)), Diff(pair(b, c)), Same(pair(a, c)) -> Even(a)
fun f falls 0 : Diff(pair(a, b)), Same(pair(b, next(zero))) -> Even(a)
f(DE(x, y), z) = x
fun g falls 0 : Diff(pair(a, b)), Same(pair(b, c)) -> Diff(pair(b, a))
g(DE(x, y), z) = DO(y, x)
g(DO(x, y), SE(z, w)) = DE(y, x)
"""
# Two states of an index are opened one behind the other.
BOTH = """
fun f falls 0 : Next(n), Next(m) -> Even(zero)
f(l, r) = g(l, r)
fun g falls 0 : Next(next(n)), Next(next(m)) -> Even(zero)
g(l, r) = E
fun h falls 0 : Next(next(n)), Even(m) -> Even(zero)
h(NE(x), y) = g(NE(x), NE(y))
h(NO(x), F(y)) = f(NO(x), NO(y))
h(NO(x), y) = y
"""
NEXT = EVEN_ODD[:2] + (("Even", "Odd", "Next"), EVEN_ODD[3] + (
    ("NE", (("Even", "n"),), "Next", ("next", "n")), ("NO", (("Odd", "n"),), "Next", ("next", "n"))))
DEAD_CASES = ("states", "i0", (("never", 1), ("never", 0)))
OPENED_TREES = (
    ("body", 0, ("states", "i0", (("never", 0), ("steps", "i0", (END,))))),
    ("split", 0, (("body", 0, END),)),
    ("body", 0, END),
    ("dead", DEAD_CASES))


class MadeByHand(Case):

    def opened(self, *trees):
        table, machine, program = self.reading(OPENED, EVEN_ODD)
        program = ("program", program[1][:4])
        return table, program, ("let", machine, OPENED_TREES[:len(OPENED_TREES) - len(trees)] + trees)

    def with_tree(self, at, tree):
        table, program, value = self.opened()
        return table, program, (value[0], value[1], value[2][:at] + (tree,) + value[2][at + 1:])

    def test_example(self):
        self.taken(VECTOR_TABLE, AT, AT_PAPER)
        self.taken(*self.opened())

    def test_split_that_was_not_needed(self):
        self.taken(VECTOR_TABLE, AT, ("let", VECTOR_MACHINE, (("split", 1, (
            ("split", 0, (CLASH, CLASH)), ("split", 0, (("body", 0, END), ("body", 1, END))))),)))
        # A skeleton that clashes is split all the same, and a first value is split for nothing.
        self.taken(VECTOR_TABLE, AT, ("let", VECTOR_MACHINE, (("split", 0, (
            ("split", 1, (("split", 0, (CLASH, CLASH)), ("body", 0, END))),
            ("split", 1, (CLASH, ("split", 0, (
                ("body", 1, END), ("split", 0, (("body", 1, END), ("body", 1, END)))))))),),)))
        self.taken(*self.with_tree(2, ("split", 0, (("split", 0, (("body", 0, END), ("body", 0, END))),))))

    def test_cases_that_were_not_needed(self):
        self.taken(*self.with_tree(2, ("body", 0, ("states", "i0", (END, END)))))
        self.taken(*self.with_tree(2, ("body", 0, ("states", "i0", (
            ("steps", "i0", (END, END)), ("never", 1))))))
        self.taken(*self.with_tree(2, ("body", 0, ("states", "i0", (
            ("steps", "i0", (END, ("steps", "i0.1", (("steps", "i0.1.1", (END, END)),)))), ("never", 1))))))
        self.taken(*self.with_tree(0, ("body", 0, ("states", "i0", (
            ("steps", "i0", (("never", 0), ("never", 0))), ("steps", "i0", (("steps", "i0.1", (END, END)),)))))))

    def test_names_that_got_states_twice(self):
        self.refused(*self.with_tree(2, ("body", 0, ("states", "i0", (("states", "i0", (END, END)), END)))))
        self.refused(*self.with_tree(2, ("body", 0, ("states", "i0", (
            ("steps", "i0", (END, ("states", "i0.1", (END, END)))), END)))))
        self.refused(*self.with_tree(2, ("body", 0, ("states", "i0", (
            ("steps", "i0", (END, ("states", "i0", (END, END)))), END)))))
        self.refused(*self.with_tree(2, ("body", 0, ("states", "i0", (
            ("steps", "i0", (END, ("steps", "i0", (END, END)))), END)))))
        # Beside one another they may.
        self.taken(*self.with_tree(2, ("body", 0, ("states", "i0", (
            ("steps", "i0", (END, END)), ("steps", "i0", (END,)))))))

    def test_names_that_are_not_there(self):
        for name in ("i1", "i0.1", "n", "m", "v0", "", 0, None, ("i0",), ["i0"], "i00", {}):
            self.refused(*self.with_tree(2, ("body", 0, ("states", name, (END, END)))))
            self.refused(*self.with_tree(2, ("body", 0, ("states", "i0", (("steps", name, (END, END)), END)))))
        self.refused(*self.with_tree(2, ("body", 0, ("steps", "i0", (END, END)))))
        # What was opened in one case is closed in the next.
        self.refused(*self.with_tree(2, ("body", 0, ("states", "i0", (
            ("steps", "i0", (END, ("steps", "i0.1", (END,)))), ("steps", "i0.1", (END, END)))))))
        self.refused(*self.with_tree(2, ("body", 0, ("states", "i0", (
            ("steps", "i0", (("steps", "i0.1", (END,)), END)), END)))))

    def test_number_and_order_of_cases(self):
        for rows in ((END,), (END, END, END), (), END, [END, END], ((END, END),)):
            self.refused(*self.with_tree(2, ("body", 0, ("states", "i0", rows))))
            self.refused(*self.with_tree(2, ("body", 0, ("states", "i0", (("steps", "i0", rows), END)))))
        self.refused(*self.with_tree(0, ("body", 0, ("states", "i0", (("steps", "i0", (END, END)), ("never", 0))))))
        self.refused(*self.with_tree(0, ("body", 0, ("states", "i0", (("steps", "i0", (END,)), ("never", 0))))))
        self.refused(*self.with_tree(3, ("dead", ("states", "i0", (("never", 0), ("never", 1))))))

    def test_never(self):
        for at in (1, 2, -1, True, False, None, "0", (0,), 0.0):
            self.refused(*self.with_tree(0, ("body", 0, ("states", "i0", (
                ("never", at), ("steps", "i0", (END,)))))))
        # The names of the place have no states, or its family is there.
        self.refused(*self.with_tree(0, ("body", 0, ("never", 0))))
        self.refused(*self.with_tree(0, ("body", 0, ("states", "i0", (("never", 0), ("never", 0))))))
        self.refused(*self.with_tree(0, ("body", 0, (
            "states", "i0", (("never", 0), ("steps", "i0", (("never", 0),)))))))
        self.taken(*self.with_tree(0, ("body", 0, ("states", "i0", (
            ("steps", "i0", (("never", 0), ("steps", "i0.1", (("never", 0),)))), ("steps", "i0", (END,)))))))

    def test_end(self):
        # The name is not opened, or is opened where it has another maker.
        self.refused(*self.with_tree(0, ("body", 0, END)))
        self.refused(*self.with_tree(0, ("body", 0, ("states", "i0", (("never", 0), END)))))
        self.refused(*self.with_tree(0, ("body", 0, ("states", "i0", (
            ("steps", "i0", (END, END)), ("steps", "i0", (END,)))))))
        self.refused(*self.with_tree(0, ("body", 0, ("end", ()))))
        self.refused(*self.with_tree(0, ("body", 0, ["end"])))
        self.refused(*self.with_tree(0, ("body", 0, "end")))
        self.refused(*self.with_tree(0, ("body", 0, ())))

    def test_dead(self):
        self.refused(*self.opened(("dead", END)))
        self.refused(*self.opened(("dead", ("states", "i0", (("never", 1), END)))))
        self.refused(*self.opened(("dead", ("states", "i0", (END, ("never", 0))))))
        self.refused(*self.opened(("dead",)))
        self.refused(*self.opened(("dead", DEAD_CASES, ())))
        self.refused(*self.opened(CLASH))
        self.taken(*self.opened(("body", 0, DEAD_CASES)))
        # The skeleton is split on the way to being dead.
        self.taken(*self.opened(("split", 0, (("dead", ("never", 0)), ("dead", (
            "states", "i0", (("never", 0), ("never", 1))))))))
        for at in range(3):
            self.refused(*self.with_tree(at, ("dead", DEAD_CASES)))
            self.refused(*self.with_tree(at, CLASH))

    def test_clash(self):
        table, program, value = self.opened()
        self.refused(table, program, (value[0], value[1], (CLASH,) * 4))
        for tree in (("clash", ()), ["clash"], "clash", ("dead", ("never", 0)), ("body", 0, END), ("dead", END)):
            self.refused(VECTOR_TABLE, AT, exchanged(AT_PAPER, (2, 0, 2, 0, 2, 0), tree))
        self.refused(VECTOR_TABLE, AT, exchanged(AT_PAPER, (2, 0, 2, 0, 2, 1), CLASH))

    def test_body(self):
        for clause in (1, 2, -1, False, True, None, "0", (0,), 0.0):
            self.refused(VECTOR_TABLE, AT, exchanged(AT_PAPER, (2, 0, 2, 0, 2, 1, 1), clause))
        self.refused(VECTOR_TABLE, AT, exchanged(AT_PAPER, (2, 0, 2, 1, 2, 1, 1), 0))
        self.refused(VECTOR_TABLE, AT, exchanged(AT_PAPER, (2, 0, 2, 1, 2, 1, 1), True))
        self.refused(VECTOR_TABLE, AT, exchanged(AT_PAPER, (2, 0), ("body", 0, END)))
        self.refused(VECTOR_TABLE, AT, exchanged(AT_PAPER, (2, 0, 2, 0), ("body", 0, END)))

    def test_hole(self):
        table, machine, program = self.reading("""
fun f falls 0 : Even(n) -> Even(n)
f(E) = E
""", EVEN_ODD)
        for tree in (("body", -1, END), ("body", 0, END), ("dead", END), CLASH, ("split", 0, ())):
            self.refused(table, program, ("let", machine, (("split", 0, (("body", 0, END), tree)),)))
        program = ("program", (program[1][0][:5] + ((),),))
        for tree in (("body", -1, END), ("body", 0, END), ("dead", END), CLASH, END, ()):
            self.refused(table, program, ("let", machine, (tree,)))

    def test_clause_that_is_not_the_first(self):
        table, machine, program = self.reading("""
fun f falls 0 : Even(n) -> Even(n)
f(F(O(E))) = F(O(E))
f(e) = e
f(E) = E
""", EVEN_ODD)
        first = ("split", 0, (("body", 0, END), ("body", 1, END)))
        right = ("split", 0, (("body", 1, END), ("split", 0, (first,))))
        self.taken(table, program, ("let", machine, (right,)))
        for tree in (("body", 1, END), ("split", 0, (("body", 1, END), ("body", 1, END))),
                     ("split", 0, (("body", 2, END), ("split", 0, (first,)))),
                     ("split", 0, (("body", 1, END), ("split", 0, (("split", 0, (("body", 1, END),) * 2),))))):
            self.refused(table, program, ("let", machine, (tree,)))

    def test_family_without_constructors(self):
        table = EVEN_ODD[:2] + (("Even", "Odd", "No"), EVEN_ODD[3])
        program = ("program", (("f", (("Even", "n"), ("No", "n")), "Even", "n", 0, ()),))
        machine = machine_of(table)
        self.taken(table, program, ("let", machine, (("split", 1, ()),)))
        self.taken(table, program, ("let", machine, (("dead", ("states", "i0", (("never", 1), ("never", 0)))),)))
        self.taken(table, program, ("let", machine, (("dead", ("states", "i0", (("never", 1), ("never", 1)))),)))
        self.refused(table, program, ("let", machine, (("split", 0, ()),)))
        self.refused(table, program, ("let", machine, (("split", 1, []),)))
        self.refused(table, program, ("let", machine, (("split", 1, (CLASH,)),)))

    def test_single_states(self):
        table, machine, program = self.reading(SINGLES, ALONE)
        program = ("program", program[1][:2])
        all_three = ("states", "i0", (("states", "i1", (END, ("never", 1), ("never", 1))), ("never", 0), ("never", 0)))
        in_order = ("states", "i0", (("states", "i1", (("never", 1), END, ("never", 1))), ("never", 0), ("never", 0)))
        self.taken(table, program, ("let", machine, (("body", 0, all_three), ("body", 0, in_order))))
        self.refused(table, program, ("let", machine, (("body", 0, in_order), ("body", 0, in_order))))
        self.refused(table, program, ("let", machine, (("body", 0, all_three), ("body", 0, all_three))))
        self.refused(table, program, ("let", machine, (("body", 0, END), ("body", 0, in_order))))
        # Both names have one state, but it is not single.
        self.refused(table, program, ("let", machine, (("body", 0, (
            "states", "i0", (("states", "i1", (END, ("never", 1), ("never", 1))), ("never", 0),
                             ("states", "i1", (("never", 1), ("never", 1), END))))), ("body", 0, in_order))))

    def test_same_terms(self):
        # A name that stands for what it meets first, and single states deep in terms.
        table, machine, program = self.reading("""
fun f falls 0 : Nought(n) -> One(next(n))
f(a) = g(O(a), O(a), a)
fun g falls 0 : One(next(m)), One(next(m)), Nought(n) -> One(next(m))
g(a, b, c) = a
fun h falls 0 : Nought(n), Nought(m) -> One(next(n))
h(a, b) = g(O(a), O(b), b)
""", ALONE)
        cases = ("states", "i0", (("states", "i1", (END, ("never", 1), ("never", 1))), ("never", 0), ("never", 0)))
        for last, answer in ((cases, True), (END, False), (("states", "i0", (END, END, END)), False)):
            trees = (("body", 0, END), ("body", 0, END), ("body", 0, last))
            self.taken(table, program, ("let", machine, trees), answer)

    def test_papers_that_are_nested_deep(self):
        tree = ("body", 0, END)
        for _ in range(95):
            tree = ("split", 0, (tree, tree) if tree[0] == "body" else (("body", 0, END), tree))
        table, program = read("""
maker z 0
maker s 1
family Nat
con Z : -> Nat(z)
con S : Nat(n) -> Nat(s(n))
fun f falls 0 : Nat(n) -> Nat(n)
f(x) = x
""")
        machine = machine_of(table)
        self.assertIs(accepts(table, program, ("let", machine, (tree,))), True)
        cases = END
        for deep in range(93, -1, -1):
            cases = ("steps", "i0" + ".1" * deep, (END, cases))
        cases = ("states", "i0", (cases,))
        self.assertIs(accepts(table, program, ("let", machine, (("body", 0, cases),))), True)
        wrong = nested(95, ("clash",), lambda inside: ("split", 0, (("body", 0, END), inside)))
        self.assertIs(accepts(table, program, ("let", machine, (wrong,))), False)
        for kind in (lambda inside: (inside,), lambda inside: [inside], lambda inside: {"split": inside}):
            deep = nested(190, END, kind)
            for value in (deep, ("let", machine, (deep,)), ("let", deep, (tree,)), ("not", "f", (deep,)),
                          ("not", deep, (("Z",),)), ("let", machine, (("body", 0, deep),)),
                          ("let", machine, (("split", deep, (tree, tree)),))):
                self.assertIs(accepts(table, program, value), False)


class Machines(Case):

    def other_paper(self, table, machine, program):
        prover = Prover(table, machine, program)
        return ("let", machine, tuple(prover.tree(function) for function in program[1]))

    def reordered(self, machine, places):
        where = {place: at for at, place in enumerate(places)}
        states = tuple(machine[1][place] for place in places)
        steps = []
        makers = list(dict.fromkeys(maker for maker, _, _ in machine[2]))
        told = {(maker, parts): state for maker, parts, state in machine[2]}
        for maker in makers:
            many = next(len(parts) for word, parts, _ in machine[2] if word == maker)
            for parts in itertools.product(range(len(states)), repeat=many):
                steps.append((maker, parts, where[told[(maker, tuple(places[part] for part in parts))]]))
        return ("machine", states, tuple(steps))

    def test_states_in_another_order(self):
        refused = 0
        for text, start in ((OPENED, EVEN_ODD), (SINGLES, ALONE), (PAIRED, DOUBLING)):
            table, machine, program = self.reading(text, start)
            for places in list(itertools.permutations(range(len(machine[1]))))[:20]:
                other = self.reordered(machine, places)
                self.taken(table, program, self.other_paper(table, other, program))
                # The cases are told in the order of the states, so those of the other order seldom hold.
                mixed = ("let", other, paper(table, machine, program)[2])
                answer = ByHand(table, program).accepts(mixed)
                self.taken(table, program, mixed, answer)
                refused += not answer
        self.assertGreater(refused, 15)

    def test_larger_models(self):
        # More may be in the states than holds; then less can be refuted.
        both = ("machine", (("Even", "Odd"),), (("zero", (), 0), ("next", (0,), 0)))
        table, machine, program = self.reading("""
fun f falls 0 : Even(n) -> Even(n)
f(e) = e
fun dead falls 0 : Even(n), Odd(n) -> Even(next(n))
dead(a, b) = a
""", EVEN_ODD)
        first = ("program", program[1][:1])
        self.taken(table, first, ("let", both, (("body", 0, END),)))
        self.taken(table, first, ("let", both, (("body", 0, ("states", "i0", (("steps", "i0", (END, END)),))),)))
        self.refused(table, program, ("let", both, (("body", 0, END), ("dead", ("states", "i0", (("never", 0),))))))
        self.refused(table, program, ("let", both, (("body", 0, END), ("body", 0, END))))
        # Late is told to hold at all even trees here, and one tree more has a state of its own.
        table, machine, program = self.reading("""
fun dead falls 0 : Even(n), Odd(n) -> Even(next(n))
dead(a, b) = a
""", LATE)
        more = ("machine", (("Even", "Late"), ("Odd",)), (("zero", (), 0), ("next", (0,), 1), ("next", (1,), 0)))
        self.taken(table, program, ("let", more, (("dead", DEAD_CASES),)))

    def test_single_states_of_a_larger_model(self):
        # In the machine of the table zero alone is in the first state; in the model it is not alone there.
        table, machine, program = self.reading(SINGLES, ALONE)
        every = ("machine", (("One", "Nought"),), (("zero", (), 0), ("next", (0,), 0)))
        self.refused(table, ("program", program[1][:1]), (
            "let", every, (("body", 0, ("states", "i0", (("states", "i1", (END,)),))),)))

    def test_no_models(self):
        program = ("program", ())
        table = EVEN_ODD
        for machine in (
                ("machine", ((),), (("zero", (), 0), ("next", (0,), 0))),
                ("machine", (("Even",),), (("zero", (), 0), ("next", (0,), 0))),
                ("machine", (("Even",), ()), (("zero", (), 0), ("next", (0,), 1), ("next", (1,), 0))),
                ("machine", (("Even",), ("Odd",)), (("zero", (), 0), ("next", (0,), 1), ("next", (1,), 1))),
                ("machine", (("Even",), ("Odd",), ("Even", "Odd")), (
                    ("zero", (), 0), ("next", (0,), 1), ("next", (1,), 1), ("next", (2,), 2)))):
            self.refused(table, program, ("let", machine, ()))
        larger = ("machine", (("Even", "Odd"), ("Even",)), (("zero", (), 0), ("next", (0,), 1), ("next", (1,), 1)))
        self.refused(table, program, ("let", larger, ()))
        self.taken(table, program, ("let", TURNS_MACHINE, ()))

    def test_machines_that_are_not_formed(self):
        program = ("program", ())
        for path in paths_in(TURNS_MACHINE):
            for item in (None, True, False, (), [], "Even", 7, list(item_at(TURNS_MACHINE, path))
                         if isinstance(item_at(TURNS_MACHINE, path), tuple) else {}):
                changed = exchanged(TURNS_MACHINE, path, item)
                # An empty tuple of parts is that of the first step already.
                if changed != TURNS_MACHINE or isinstance(item, bool):
                    self.refused(EVEN_ODD, program, ("let", changed, ()))
        steps = TURNS_MACHINE[2]
        for other in (steps[1:], steps[:-1], steps + steps[:1], steps[::-1], list(steps)):
            self.refused(EVEN_ODD, program, ("let", ("machine", TURNS_MACHINE[1], other), ()))
        # A state that no tree reaches.
        more = ("machine", TURNS_MACHINE[1] + ((),), steps + (("next", (2,), 2),))
        self.refused(EVEN_ODD, program, ("let", more, ()))


class NotPapers(Case):

    def test_made_by_hand(self):
        program = ("program", AT[1] + (
            ("bad", (("Vec", "n"), ("Bit", ("z",))), "Vec", "n", 0, (((("Cons", "x", "r"), "b"), "r"),)),))
        nil, on = ("Nil",), ("On",)
        one = ("Cons", on, nil)
        self.taken(VECTOR_TABLE, program, ("not", "bad", (nil, on)))
        self.taken(VECTOR_TABLE, program, ("not", "bad", (one, on)))
        for values in ((nil,), (nil, on, on), (), (nil, nil), (on, on), [nil, on], (list(nil), on), (("No",), on),
                       (("Cons", on), on), (("Cons", ("Zero",), nil), on), nil, on, None, 0, (None, on), ("nil", on),
                       (nil, "On"), ({}, on), (nil, (on,)), (((),), on), (("Top", ("Zero",)), on)):
            self.refused(VECTOR_TABLE, program, ("not", "bad", values))
        for word in ("no", "", None, 0, ("bad",), ["bad"], {}, True, "Cons", program[1][1]):
            self.refused(VECTOR_TABLE, program, ("not", word, (nil, on)))
        for value in (("not", "bad"), ("not", "bad", (nil, on), ()), ["not", "bad", (nil, on)],
                      ("Not", "bad", (nil, on)),
                      ("let", "bad", (nil, on)), ("not", (nil, on), "bad"), ("bad", (nil, on))):
            self.refused(VECTOR_TABLE, program, value)

    def test_values_that_are_told_right(self):
        values = (("Top", ("Zero",)), ("Cons", ("On",), ("Nil",)))
        self.refused(VECTOR_TABLE, AT, ("not", "at", values))
        # These have not the indices that are asked for.
        self.refused(VECTOR_TABLE, AT, ("not", "at", (values[0], ("Nil",))))

    def test_wrong_only_where_another_function_is(self):
        program = ("program", (
            ("f", (("Vec", "n"),), "Vec", "n", 0, ((("v",), ("g", "v")),)), ("g", (("Vec", "n"),), "Vec", "n", 0, ())))
        self.refused(VECTOR_TABLE, program, ("not", "f", (("Nil",),)))
        self.taken(VECTOR_TABLE, program, ("not", "g", (("Nil",),)))

    def test_values_that_are_nested_deep(self):
        program = ("program", (("f", (("Nat", "n"),), "Nat", "n", 0, (((("Succ", "k"),), "k"),)),))
        value = nested(195, ("Zero",), lambda inside: ("Succ", inside))
        self.assertIs(accepts(VECTOR_TABLE, program, ("not", "f", (value,))), True)
        self.assertIs(accepts(VECTOR_TABLE, program, ("not", "f", (("Succ", ("Pop", value)),))), False)


class Changed(Case):

    def test_any_value(self):
        for value in ANYTHING + (AT, VECTOR_TABLE, VECTOR_MACHINE, "let", ("let",), 1.5):
            self.assertIs(accepts(VECTOR_TABLE, AT, value), False)
            for at in range(3):
                if value != AT_PAPER[at]:
                    self.assertIs(accepts(VECTOR_TABLE, AT, exchanged(AT_PAPER, (at,), value)), False)
            self.assertIs(accepts(VECTOR_TABLE, AT, ("not", "at", value)), False)
            self.assertIs(accepts(VECTOR_TABLE, AT, ("not", value, (("Nil",),))), False)

    def test_each_part(self):
        table, machine, program = MadeByHand().reading(OPENED, EVEN_ODD)
        for table, program in ((VECTOR_TABLE, AT), (table, program)):
            right = paper(table, machine_of(table), program)
            for path in paths_in(right):
                for changed in self.changes(right, path):
                    if changed != right:
                        self.taken(table, program, changed, ByHand(table, program).accepts(changed))
                    elif repr(changed) != repr(right):
                        # True for a number.
                        self.refused(table, program, changed)
            for path in paths_in(right[2]):
                here = item_at(right[2], path)
                if isinstance(here, tuple):
                    self.refused(table, program, exchanged(right, (2, *path), list(here)))
                    if here:
                        self.refused(table, program, exchanged(right, (2, *path), here[1:]))
                        self.refused(table, program, exchanged(right, (2, *path), here[:-1]))
                    self.refused(table, program, exchanged(right, (2, *path), here + here[-1:]))
                    self.refused(table, program, exchanged(right, (2, *path), (*here, ())))

    def changes(self, right, path):
        here = item_at(right, path)
        for item in (None, True, False, 0, 1, "", (), [], {}, "i0", "v0", "end", END, CLASH, ("dead", END)):
            yield exchanged(right, path, item)
        if isinstance(here, tuple):
            yield exchanged(right, path, list(here))
            yield exchanged(right, path, here[::-1])
            yield exchanged(right, path, here + here)
            yield exchanged(right, path, here[1:])
            yield exchanged(right, path, here[:-1])
            for at in range(len(here)):
                yield exchanged(right, path, here[:at] + here[at:at + 1] + here[at:])
        elif isinstance(here, int):
            for item in (here + 1, here - 1, bool(here), float(here), str(here)):
                yield exchanged(right, path, item)
        else:
            for item in (here + ".1", here[:-1], (here,), here.upper()):
                yield exchanged(right, path, item)

    def test_parts_of_one_paper_at_other_places(self):
        rng = random.Random(1002)
        answers = []
        rows = [(table, copying(table)) for table in SMALL] + list(ALL)
        for text, start in ((OPENED, EVEN_ODD), (SINGLES, ALONE), (PAIRED, DOUBLING), (HUNG, PARITY), (BOTH, NEXT)):
            table, _, program = self.reading(text, start)
            rows += [(table, program)] * 4
        for table, program in rows:
            machine = machine_of(table)
            right = right_functions(table, machine, program)
            program = ("program", tuple(one for one in program[1] if one[0] in right))
            value = paper(table, machine, program)
            paths = paths_in(value[2])
            for _ in range(150):
                one, other = rng.choice(paths), rng.choice(paths)
                changed = exchanged(value, (2, *one), item_at(value[2], other))
                answers.append(ByHand(table, program).accepts(changed))
                self.assertIs(accepts(table, program, changed), answers[-1])
        self.assertGreater(min(answers.count(True), answers.count(False)), 100)

    def test_papers_of_other_programs(self):
        rng = random.Random(1003)
        seen = 0
        for _ in range(150):
            table = rng.choice(SMALL)
            machine = machine_of(table)
            program = copying(table)
            value = paper(table, machine, program)
            at = rng.randrange(len(program[1]))
            other = random_program(rng, table, 1)[1][0]
            function = (program[1][at][:5] + (other[5],)) if rng.random() < 0.5 else (
                program[1][at][:3] + (other[3],) + program[1][at][4:])
            changed = ("program", program[1][:at] + (function,) + program[1][at + 1:])
            if is_program(table, changed):
                self.taken(table, changed, value, ByHand(table, changed).accepts(value))
                if judged(table, machine, changed)[0] == "not":
                    seen += 1
                    self.refused(table, changed, value)
        self.assertGreater(seen, 20)

    def test_never_both(self):
        rng = random.Random(1005)
        for _ in range(60):
            table = rng.choice(SMALL)
            machine = machine_of(table)
            program = random_program(rng, table, 2)
            value = paper(table, machine, program)
            if value[0] == "not":
                trees = tuple(("body", 0, END) for _ in program[1])
                self.refused(table, program, ("let", machine, trees))
            else:
                for function in program[1]:
                    self.refused(table, program, ("not", function[0], tuple(
                        ("E",) for _ in function[1])))


if __name__ == "__main__":
    unittest.main()
