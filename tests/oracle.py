"""Programs for the tests, random ones too, and what they must give, told in other ways than the program does."""

import itertools

from exactkinds.reading import read
from tests.samples import BALANCED, EVEN_ODD, filled, fit, index_by_hand

# The example of the parts 6 to 10.
VECTOR_TEXT = """
maker z 0
maker s 1
family Bit
family Nat
family Fin
family Vec
con Off : -> Bit(z)
con On : -> Bit(z)
con Zero : -> Nat(z)
con Succ : Nat(n) -> Nat(s(n))
con Top : Nat(n) -> Fin(s(n))
con Pop : Fin(n) -> Fin(s(n))
con Nil : -> Vec(z)
con Cons : Bit(z), Vec(n) -> Vec(s(n))
"""
AT_TEXT = VECTOR_TEXT + """
fun at falls 0 : Fin(n), Vec(n) -> Bit(z)
at(Top(k), Cons(x, r)) = x
at(Pop(i), Cons(x, r)) = at(i, r)
"""
VECTOR_TABLE, AT = read(AT_TEXT)
MORE_TEXT = VECTOR_TEXT + """
fun flip falls 0 : Bit(z) -> Bit(z)
flip(On) = Off
flip(Off) = On
fun map falls 0 : Vec(n) -> Vec(n)
map(Nil) = Nil
map(Cons(x, r)) = Cons(flip(x), map(r))
fun zip falls 0 : Vec(n), Vec(n) -> Vec(n)
zip(Cons(On, r), Cons(y, q)) = Cons(y, zip(r, q))
zip(Cons(x, r), Cons(y, q)) = Cons(x, zip(r, q))
zip(Nil, w) = w
fun last falls 0 : Vec(s(n)) -> Bit(z)
last(Cons(x, Nil)) = x
last(Cons(x, r)) = last(r)
fun rev falls 0 : Nat(n), Vec(n) -> Vec(n)
rev(Zero, w) = w
rev(Succ(k), Cons(x, r)) = Cons(last(Cons(x, r)), rev(k, map(r)))
fun max falls 0 : Nat(n) -> Fin(s(n))
max(Zero) = Top(Zero)
max(Succ(k)) = Pop(max(k))
fun pick falls 0 : Nat(n), Vec(s(n)) -> Bit(z)
pick(k, w) = at(max(k), w)
fun at falls 0 : Fin(n), Vec(n) -> Bit(z)
at(Top(k), Cons(x, r)) = x
at(Pop(i), Cons(x, r)) = at(i, r)
fun head falls 0 : Vec(n) -> Bit(z)
head(Cons(x, r)) = x
fun short falls 0 : Vec(n) -> Vec(n)
short(Nil) = Nil
short(Cons(x, r)) = r
fun join falls 0 : Vec(n), Vec(m) -> Vec(s(n))
join(Cons(x, r), w) = Cons(x, join(r, w))
join(Nil, Cons(y, Nil)) = Cons(y, Nil)
join(Nil, w) = zip(Nil, w)
"""
_, MORE = read(MORE_TEXT)
# Typed expressions: the index of Exp is a kind of value, that of Val too.
TYPED_TEXT = """
maker bool 0
maker num 0
maker prod 2
family Ty
family Exp
family Val
con B : -> Ty(bool)
con N : -> Ty(num)
con P : Ty(a), Ty(b) -> Ty(prod(a, b))
con Yes : -> Val(bool)
con No : -> Val(bool)
con Nought : -> Val(num)
con More : Val(num) -> Val(num)
con Both : Val(a), Val(b) -> Val(prod(a, b))
con Lit : Val(a) -> Exp(a)
con If : Exp(bool), Exp(a), Exp(a) -> Exp(a)
con Mk : Exp(a), Exp(b) -> Exp(prod(a, b))
con Fst : Exp(prod(a, b)) -> Exp(a)
con IsZ : Exp(num) -> Exp(bool)
fun eval falls 0 : Exp(a) -> Val(a)
eval(Lit(v)) = v
eval(If(c, t, e)) = choose(eval(c), eval(t), eval(e))
eval(Mk(l, r)) = Both(eval(l), eval(r))
eval(Fst(p)) = first(eval(p))
eval(IsZ(n)) = isz(eval(n))
fun choose falls 0 : Val(bool), Val(a), Val(a) -> Val(a)
choose(Yes, t, e) = t
choose(No, t, e) = e
fun first falls 0 : Val(prod(a, b)) -> Val(a)
first(Both(l, r)) = l
fun isz falls 0 : Val(num) -> Val(bool)
isz(Nought) = Yes
isz(More(k)) = No
fun same falls 0 : Ty(a), Ty(a) -> Val(bool)
same(B, B) = Yes
same(N, N) = Yes
same(P(a, b), P(c, d)) = choose(same(a, c), same(b, d), No)
fun swap falls 0 : Val(prod(a, b)) -> Val(prod(b, a))
swap(Both(l, r)) = Both(r, l)
fun wrong falls 0 : Val(prod(a, b)) -> Val(prod(b, a))
wrong(v) = v
"""
TYPED_TABLE, TYPED = read(TYPED_TEXT)
TURNS_TEXT = """
maker zero 0
maker next 1
family Even
family Odd
con E : -> Even(zero)
con O : Even(n) -> Odd(next(n))
con F : Odd(n) -> Even(next(n))
fun up falls 0 : Even(n) -> Odd(next(n))
up(E) = O(E)
up(F(o)) = O(F(down(o)))
fun down falls 0 : Odd(n) -> Odd(n)
down(O(e)) = up(e)
fun half falls 0 : Even(n) -> Even(n)
half(E) = E
half(F(O(e))) = F(O(half(e)))
fun never falls 0 : Even(next(n)), Odd(m) -> Even(n)
never(E, o) = E
never(F(O(E)), o) = E
"""
TURNS_TABLE, TURNS = read(TURNS_TEXT)
BALANCED_TEXT = """
maker zero 0
maker next 1
family Bal
family Lower
con Leaf : -> Bal(zero)
con Wrap : Bal(n) -> Lower(next(n))
con Full : Bal(m), Bal(m) -> Bal(next(m))
con Left : Bal(m), Lower(m) -> Bal(next(m))
fun flip falls 0 : Bal(n) -> Bal(n)
flip(Leaf) = Leaf
flip(Full(l, r)) = Full(flip(r), flip(l))
flip(Left(l, Wrap(r))) = Left(flip(l), Wrap(flip(r)))
fun deep falls 0 : Bal(next(n)) -> Bal(n)
deep(Full(l, r)) = l
deep(Left(l, r)) = l
fun twice falls 0 : Bal(n), Bal(n) -> Bal(next(n))
twice(Leaf, r) = Full(Leaf, Leaf)
twice(l, r) = Full(r, l)
fun bad falls 0 : Bal(n), Bal(m) -> Bal(next(n))
bad(Full(a, Full(b, c)), r) = Full(r, r)
bad(l, r) = Full(l, l)
"""
_, BALANCING = read(BALANCED_TEXT)

ALL = ((VECTOR_TABLE, AT), (VECTOR_TABLE, MORE), (TYPED_TABLE, TYPED), (TURNS_TABLE, TURNS), (BALANCED, BALANCING))
assert TURNS_TABLE == EVEN_ODD


def function_in(program, word):
    return next(one for one in program[1] if one[0] == word)


def all_values(table, most):
    """For each family the list of the pairs of a value and its index, up to a size, in the order of sizes."""
    rows = {total: {family: [] for family in table[2]} for total in range(1, most + 1)}
    for total in rows:
        for word, parts, family, _ in table[3]:
            for sizes in itertools.product(range(1, total), repeat=len(parts)):
                if sum(sizes) == total - 1:
                    for inner in itertools.product(*(rows[size][each] for size, (each, _) in zip(sizes, parts))):
                        value = (word, *(part for part, _ in inner))
                        kind = index_by_hand(table, value)
                        if kind is not None:
                            rows[total][family].append((value, kind[1]))
    return {family: [pair for total in rows for pair in rows[total][family]] for family in table[2]}


def asked_for(table, function, values, most):
    """The list of tuples of values with the indices that a function asks for, at most so many.

    Not too many are tried, as a table may have very many values of a small size.
    """
    found = []
    tried = [0]
    rows = [values[family] for family, _ in function[1]]
    patterns = [term for _, term in function[1]]

    def go(done, names):
        tried[0] += 1
        if len(found) >= most or tried[0] > 20 * most:
            return
        if len(done) == len(rows):
            found.append(tuple(done))
            return
        for value, tree in rows[len(done)]:
            more = dict(names)
            if fit(patterns[len(done)], tree, more):
                go(done + [value], more)

    go([], {})
    return found


def asked_trees(table, function, values):
    """The trees for the index names, or None if the values do not have the indices that are asked for."""
    names = {}
    for value, (family, term) in zip(values, function[1]):
        kind = index_by_hand(table, value)
        if kind is None or kind[0] != family or not fit(term, kind[1], names):
            return None
    return names


def clause_by_hand(function, values):
    for place, (patterns, _) in enumerate(function[5]):
        names = {}
        if all(fit(pattern, value, names) for pattern, value in zip(patterns, values)):
            return place, names
    return -1, None


def told_index_by_hand(table, program, body, trees, way=()):
    """Point 900, for a body."""
    if isinstance(body, str):
        return ("index", trees[body])
    parts = []
    for at, part in enumerate(body[1:]):
        told = told_index_by_hand(table, program, part, trees, way + (at,))
        if told[0] != "index":
            return told
        parts.append(told[1])
    for word, kinds, _, index in table[3]:
        if word == body[0]:
            fault = "make"
            break
    else:
        _, kinds, _, index, _, _ = function_in(program, body[0])
        fault = "demand"
    found = {}
    if all(fit(term, tree, found) for (_, term), tree in zip(kinds, parts)):
        return ("index", filled(index, found))
    return (fault, way)


def told_by_hand(table, program, word, values):
    """Point 901."""
    function = function_in(program, word)
    trees = asked_trees(table, function, values)
    place, names = clause_by_hand(function, values)
    if place == -1:
        return ("hole", ())
    inner = {name: index_by_hand(table, value)[1] for name, value in names.items()}
    told = told_index_by_hand(table, program, function[5][place][1], inner)
    if told[0] != "index":
        return told
    return None if told[1] == filled(function[3], trees) else ("result", ())


class Stopped(Exception):
    pass


class RunByHand:
    """Points 700 to 705, with Python's own calls; table is None for a plain run."""

    def __init__(self, table, program, steps):
        self.table = table
        self.program = program
        self.left = steps

    def outcome(self, word, values):
        try:
            value = self.call(word, values, (word, -1, ()))
        except Stopped as stop:
            return stop.args[0]
        return ("end" if self.table is None else "right", value)

    def step(self):
        if self.left == 0:
            raise Stopped(("long",))
        self.left -= 1

    def call(self, word, values, place):
        function = function_in(self.program, word)
        trees = {}
        if self.table is not None:
            trees = asked_trees(self.table, function, values)
            if trees is None:
                raise Stopped(("wrong", ("demand", *place)))
        self.step()
        clause, names = clause_by_hand(function, values)
        if clause == -1:
            raise Stopped(("hole",) if self.table is None else ("wrong", ("hole", *place)))
        result = self.reckon(function[5][clause][1], names, word, clause, ())
        if self.table is not None:
            if index_by_hand(self.table, result) != (function[2], filled(function[3], trees)):
                raise Stopped(("wrong", ("result", *place)))
        return result

    def reckon(self, body, names, word, clause, way):
        if isinstance(body, str):
            return names[body]
        parts = tuple(self.reckon(part, names, word, clause, way + (at,)) for at, part in enumerate(body[1:]))
        if any(function[0] == body[0] for function in self.program[1]):
            return self.call(body[0], parts, (word, clause, way))
        if self.table is not None and index_by_hand(self.table, (body[0], *parts)) is None:
            raise Stopped(("wrong", ("make", word, clause, way)))
        self.step()
        return (body[0], *parts)


def belongs(skeleton, values):
    return all(fit(pattern, value, {}) for pattern, value in zip(skeleton, values))


def random_pattern(rng, table, family, room, state):
    """A pattern at a family; state counts the names, room is a list with the constructors that may still come."""
    made = [one for one in table[3] if one[2] == family]
    if not made or room[0] == 0 or rng.random() < 0.35:
        state.append(family)
        return f"x{len(state) - 1}"
    room[0] -= 1
    word, parts, _, _ = rng.choice(made)
    return (word, *(random_pattern(rng, table, inner, room, state) for inner, _ in parts))


def random_body(rng, table, functions, names, family, deep, falling):
    """A body of the family, or None; functions may be called, the last one of them only as it falls."""
    choices = [name for name in names if names[name] == family]
    inner = [one for one in table[3] if one[2] == family and (deep > 0 or not one[1])]
    calls = [one for one in functions if one[2] == family and deep > 0]
    if choices and (deep == 0 or rng.random() < 0.35):
        return rng.choice(choices)
    rng.shuffle(inner)
    if calls and rng.random() < 0.6:
        inner.insert(0, rng.choice(calls))
    for one in inner:
        kinds = one[1]
        parts = []
        for at, (each, _) in enumerate(kinds):
            if one is functions[-1] and at == one[4]:
                fitting = [name for name in falling if names[name] == each]
                part = rng.choice(fitting) if fitting else None
            else:
                part = random_body(rng, table, functions, names, each, deep - 1, falling)
            if part is None:
                break
            parts.append(part)
        else:
            return (one[0], *parts)
    return rng.choice(choices) if choices else None


def names_under(pattern):
    if isinstance(pattern, str):
        return [pattern]
    return [name for part in pattern[1:] for name in names_under(part)]


def random_kind(rng, table, names):
    """A family at a term that is often one of its constructors' made indices."""
    family = rng.choice(table[2])
    if rng.random() < 0.5:
        return family, rng.choice(names)
    word, many = rng.choice(table[1])
    return family, (word, *(rng.choice(names) for _ in range(many)))


def random_program(rng, table, many):
    """A well made program over a table; later functions call earlier ones and, falling, themselves."""
    functions = []
    for number in range(many):
        params = tuple(random_kind(rng, table, "mn") for _ in range(rng.choice([1, 1, 2, 2, 3])))
        names = sorted({name for _, term in params for name in names_under(term)})
        family, index = random_kind(rng, table, names or [(next(w for w, p in table[1] if p == 0),)])
        falls = rng.randrange(len(params))
        head = (f"f{number}", params, family, index, falls, ())
        clauses = []
        for _ in range(rng.randint(1, 5)):
            state = []
            room = [rng.randint(0, 4)]
            patterns = tuple(random_pattern(rng, table, inner, room, state) for inner, _ in params)
            scope = {f"x{at}": inner for at, inner in enumerate(state)}
            falling = names_under(patterns[falls]) if isinstance(patterns[falls], tuple) else []
            body = random_body(rng, table, functions + [head], scope, family, rng.randint(0, 3), falling)
            if body is not None and size_by_hand(body) <= 30:
                clauses.append((patterns, body))
        functions.append(head[:5] + (tuple(clauses),))
    return ("program", tuple(functions))


def copying(table):
    """A program with a function for each family that takes values apart and puts them together again."""
    functions = []
    for family in table[2]:
        clauses = []
        for word, parts, made, _ in table[3]:
            if made == family:
                names = [f"x{at}" for at in range(len(parts))]
                body = (word, *((f"copy{inner}", name) for (inner, _), name in zip(parts, names)))
                clauses.append((((word, *names),), body))
        functions.append((f"copy{family}", ((family, "n"),), family, "n", 0, tuple(clauses)))
    return ("program", tuple(functions))


def size_by_hand(body):
    return 0 if isinstance(body, str) else 1 + sum(size_by_hand(part) for part in body[1:])
