"""Tables for the tests, random ones too, and what a table must give, told in other ways than the program does."""

import itertools

from exactkinds.indices import names_of

ZERO = ("zero",)
COUNT = (("zero", 0), ("next", 1))
PAIRS = (("zero", 0), ("next", 1), ("pair", 2))


def chain(many, inside=ZERO):
    for _ in range(many):
        inside = ("next", inside)
    return inside


def nx(term):
    return ("next", term)


def pair(one, other):
    return ("pair", one, other)


EVEN_ODD = ("table", COUNT, ("Even", "Odd"), (
    ("E", (), "Even", ZERO),
    ("O", (("Even", "n"),), "Odd", nx("n")),
    ("F", (("Odd", "n"),), "Even", nx("n"))))
BALANCED = ("table", COUNT, ("Bal", "Lower"), (
    ("Leaf", (), "Bal", ZERO),
    ("Wrap", (("Bal", "n"),), "Lower", nx("n")),
    ("Full", (("Bal", "m"), ("Bal", "m")), "Bal", nx("m")),
    ("Left", (("Bal", "m"), ("Lower", "m")), "Bal", nx("m"))))
VECTORS = ("table", (("z", 0), ("s", 1)), ("Bit", "Nat", "Fin", "Vec"), (
    ("Off", (), "Bit", ("z",)),
    ("On", (), "Bit", ("z",)),
    ("Zero", (), "Nat", ("z",)),
    ("Succ", (("Nat", "n"),), "Nat", ("s", "n")),
    ("Top", (("Nat", "n"),), "Fin", ("s", "n")),
    ("Pop", (("Fin", "n"),), "Fin", ("s", "n")),
    ("Nil", (), "Vec", ("z",)),
    ("Cons", (("Bit", ("z",)), ("Vec", "n")), "Vec", ("s", "n"))))
# Trees with a pair have no family at all.
PLAIN = ("table", PAIRS, ("Nat",), (
    ("Z", (), "Nat", ZERO),
    ("S", (("Nat", "n"),), "Nat", nx("n"))))
BARE = ("table", PAIRS, ("Nat", "Other"), ())
# Each of these families holds at one tree alone.
ALONE = ("table", COUNT, ("One", "Nought"), (
    ("N", (), "Nought", ZERO),
    ("O", (("Nought", "n"),), "One", nx("n"))))
THREE = ("table", COUNT, ("A", "B", "C"), (
    ("CA", (("C", "n"),), "A", nx("n")),
    ("AB", (("A", "n"),), "B", nx("n")),
    ("BC", (("B", "n"),), "C", nx("n")),
    ("ZA", (), "A", ZERO)))
# The state comes again at a tree that is far greater only.
DOUBLING = ("table", (("zero", 0), ("pair", 2)), ("A", "B", "C", "D"), (
    ("Z", (), "A", ZERO),
    ("AB", (("A", "m"), ("A", "n")), "B", pair("m", "n")),
    ("BC", (("B", "m"), ("B", "n")), "C", pair("m", "n")),
    ("CD", (("C", "m"), ("C", "n")), "D", pair("m", "n")),
    ("DA", (("D", "m"), ("D", "n")), "A", pair("m", "n"))))
# The makers stand in another order than the sizes of what they make.
SWAPPED = ("table", (("pair", 2), ("b", 0), ("next", 1), ("a", 0)), ("A", "B"), (
    ("MA", (), "A", ("a",)),
    ("MB", (), "B", ("b",)),
    ("MP", (("A", "m"), ("B", "n")), "A", pair("m", "n")),
    ("MN", (("A", "m"),), "B", nx("m"))))
# The state with D alone is found at a pair first, but its first tree is a smaller one.
CROSSED = ("table", PAIRS, ("A", "B", "C", "D"), (
    ("Z", (), "A", ZERO),
    ("AB", (("A", "n"),), "B", nx("n")),
    ("BC", (("B", "n"),), "C", nx("n")),
    ("CD", (("C", "n"),), "D", nx("n")),
    ("BB", (("B", "m"), ("B", "n")), "D", pair("m", "n")),
    ("PC", (("A", "m"), ("B", "n")), "C", pair("m", "n")),
    ("PD", (("A", "m"), ("B", "n")), "D", pair("m", "n"))))
# Late holds at the very first tree, but this is found only when greater trees are known.
LATE = ("table", COUNT, ("Even", "Odd", "Late"), EVEN_ODD[3] + (
    ("L", (("Odd", chain(3, "h")),), "Late", ZERO),))
# The made index is a name, once with the part at this name and once with the part at a deeper index.
ANY = ("table", COUNT, ("Even", "Odd", "Any", "Ahead"), EVEN_ODD[3] + (
    ("AE", (("Even", "n"),), "Any", "n"),
    ("AO", (("Odd", "n"),), "Any", "n"),
    ("AA", (("Odd", chain(3, "n")), ("Any", nx("n"))), "Ahead", "n")))
HIDDEN_ONE = ("table", COUNT, ("Even", "Odd", "Some"), EVEN_ODD[3] + (
    ("H", (("Odd", "h"),), "Some", ZERO),))
HIDDEN_TWO = ("table", PAIRS, ("Even", "Odd", "Both"), EVEN_ODD[3] + (
    ("P", (("Odd", "m"), ("Even", "n")), "Both", pair("m", "n")),
    ("H", (("Both", pair("h", "k")), ("Odd", nx("k")), ("Even", "n")), "Both", nx("n"))))
HIDDEN_THREE = ("table", PAIRS, ("Even", "Odd", "Both"), EVEN_ODD[3] + (
    ("P", (("Odd", "m"), ("Even", "n")), "Both", pair("m", "n")),
    ("H", (("Both", pair("a", "b")), ("Both", pair("c", "b")), ("Odd", nx("n"))), "Both", "n")))
HIDDEN_FOUR = ("table", PAIRS, ("Even", "Odd", "Both"), EVEN_ODD[3] + (
    ("P", (("Odd", "m"), ("Even", "n")), "Both", pair("m", "n")),
    ("H", (("Both", pair("d", "c")), ("Both", pair("b", "a")), ("Even", nx("d"))), "Both", ZERO)))
# What they ask for is not there.
NOWHERE = ("table", COUNT, ("Nat", "No", "Never"), PLAIN[3] + (
    ("M", (("No", "n"),), "No", nx("n")),
    ("K", (("No", nx("h")), ("Nat", "n")), "Never", nx("n")),
    ("J", (("Never", "n"),), "No", "n")))
# Whether two trees are both even or both odd is told of neither of them alone.
PARITY = ("table", PAIRS, ("Even", "Odd", "Same", "Diff"), EVEN_ODD[3] + (
    ("SE", (("Even", "m"), ("Even", "n")), "Same", pair("m", "n")),
    ("SO", (("Odd", "m"), ("Odd", "n")), "Same", pair("m", "n")),
    ("DE", (("Even", "m"), ("Odd", "n")), "Diff", pair("m", "n")),
    ("DO", (("Odd", "m"), ("Even", "n")), "Diff", pair("m", "n"))))
# The six states with two families follow one another.
SIX = ("table", COUNT, ("A", "B", "C", "D"), tuple(
    (f"K{at}{made}", (((one, "n"), (other, "n"))), made, nx("n"))
    for at, (one, other, both) in enumerate((
        ("A", "B", "AC"), ("A", "C", "AD"), ("A", "D", "BC"), ("B", "C", "BD"), ("B", "D", "CD"), ("C", "D", "AB")))
    for made in both) + (("ZA", (), "A", ZERO), ("ZB", (), "B", ZERO)))


def _u(term):
    return ("u", term)


def _w(term):
    return ("w", term)


def _p(one, other):
    return ("p", one, other)


def _q(one, other):
    return ("q", one, other)


# Four families, five makers and sixteen constructors, with all sixteen states and up to four hidden names.
GREAT = ("table", (("o", 0), ("u", 1), ("w", 1), ("p", 2), ("q", 2)), ("A", "B", "C", "D"), (
    ("OA", (), "A", ("o",)),
    ("OB", (), "B", ("o",)),
    ("OC", (), "C", ("o",)),
    ("UA", (("A", "n"),), "B", _u("n")),
    ("UB", (("B", "n"),), "C", _u("n")),
    ("UC", (("C", "n"),), "D", _u("n")),
    ("UD", (("D", "n"),), "A", _u("n")),
    ("WB", (("B", "n"),), "B", _w("n")),
    ("WC", (("C", "n"),), "C", _w("n")),
    ("WD", (("D", "n"),), "D", _w("n")),
    ("P", (("A", "m"), ("B", "n")), "A", _p("m", "n")),
    ("Q", (("B", "m"), ("C", "n"), ("D", _u("n"))), "D", _q("m", "n")),
    ("R", (("A", _p("a", "b")), ("D", _q("c", "d")), ("A", _p("a", "d"))), "B", _p("a", "c")),
    ("S", (("A", _p("a", _w("b"))), ("D", _q("c", _u("d"))), ("B", _u("a"))), "C", _q("c", "a")),
    ("T", (("A", _p("a", _u("b"))), ("B", _u(_p("c", "d"))), ("C", _u(_u(_p("a", "d"))))), "D", ("o",)),
    ("V", (("D", _q("a", "b")), ("D", _q("b", "n")), ("A", _p(_u("a"), _u("n")))), "A", "n")))

SMALL = (EVEN_ODD, BALANCED, VECTORS, PLAIN, BARE, ALONE, THREE, DOUBLING, SWAPPED, CROSSED, LATE, ANY, HIDDEN_ONE,
         HIDDEN_TWO, HIDDEN_THREE, HIDDEN_FOUR, NOWHERE, SIX, PARITY)


def fit(pattern, tree, found):
    if isinstance(pattern, str):
        return found.setdefault(pattern, tree) == tree
    return pattern[0] == tree[0] and all(fit(*both, found) for both in zip(pattern[1:], tree[1:]))


def filled(term, found):
    return found[term] if isinstance(term, str) else (term[0], *(filled(part, found) for part in term[1:]))


def index_by_hand(table, value, seen=None):
    """The family and the index of a raw value, or None; a tuple that stands at many places is reckoned once."""
    seen = {} if seen is None else seen
    if id(value) not in seen:
        _, parts, family, index = next(one for one in table[3] if one[0] == value[0])
        told = [index_by_hand(table, part, seen) for part in value[1:]]
        found = {}
        right = all(one is not None and one[0] == asked and fit(term, one[1], found)
                    for one, (asked, term) in zip(told, parts))
        seen[id(value)] = (family, filled(index, found)) if right else None
    return seen[id(value)]


def depth_by_hand(value, seen=None):
    seen = {} if seen is None else seen
    if id(value) not in seen:
        seen[id(value)] = 1 + max((depth_by_hand(part, seen) for part in value[1:]), default=0)
    return seen[id(value)]


def names_in(constructor):
    found = []
    for _, term in constructor[1]:
        found += [name for name in names_of(term) if name not in found]
    return found


def hidden_in(constructor):
    return [name for name in names_in(constructor) if name not in names_of(constructor[3])]


def is_model_by_hand(table, machine):
    """Point 406 for a formed machine, with each choice tried by itself."""
    _, states, rows = machine
    steps = {(maker, parts): state for maker, parts, state in rows}

    def reckon(term, choice):
        if isinstance(term, str):
            return choice[term]
        return steps[(term[0], tuple(reckon(part, choice) for part in term[1:]))]

    for constructor in table[3]:
        _, parts, family, index = constructor
        names = names_in(constructor)
        for places in itertools.product(range(len(states)), repeat=len(names)):
            choice = dict(zip(names, places))
            if family not in states[reckon(index, choice)]:
                if all(asked in states[reckon(term, choice)] for asked, term in parts):
                    return False
    return True


def are_right_by_hand(table, rules):
    """Point 408, word by word, for a list of rules that have the form of point 407."""
    return all(_is_right_by_hand(table, rules[:at], rule) for at, rule in enumerate(rules))


def _is_right_by_hand(table, earlier, rule):
    maker, sets, family, word, hidden = rule
    constructor = next(one for one in table[3] if one[0] == word)
    _, parts, made, index = constructor
    # An integer stands for the part of the maker with this place.
    places = tuple(range(len(sets)))
    if isinstance(index, str):
        found = {index: (maker, *places)}
    elif index[0] == maker:
        found = dict(zip(index[1:], places))
    else:
        return False
    found.update(zip(hidden_in(constructor), hidden))

    def told(asked, term):
        if isinstance(term, int):
            return asked in sets[term]
        return any(one[0] == term[0] and one[2] == asked and all(
            told(each, part) for needed, part in zip(one[1], term[1:]) for each in needed) for one in earlier)

    return made == family and all(told(asked, filled(term, found)) for asked, term in parts)


def are_steps_told_by_hand(machine, rules):
    """The last part of point 409."""
    _, states, steps = machine
    return all(any(rule[0] == maker and rule[2] == family and all(
        one in states[part] for needed, part in zip(rule[1], parts) for one in needed) for rule in rules)
        for maker, parts, state in steps for family in states[state])


def trees_by_hand(makers, most):
    """The list of all trees up to a size, in order."""
    rows = {0: []}
    for total in range(1, most + 1):
        rows[total] = [(word, *parts) for word, many in makers for parts in parts_by_hand(rows, many, total - 1)]
    return [tree for row in rows.values() for tree in row]


def parts_by_hand(rows, many, total):
    found = []
    for sizes in itertools.product(range(1, total + 1), repeat=many):
        if sum(sizes) == total:
            found += itertools.product(*(rows[one] for one in sizes))
    return found


def random_term(rng, makers, names, deep):
    if deep == 1 or rng.random() < 0.5:
        if names and rng.random() < 0.85:
            return rng.choice(names)
        return (rng.choice([word for word, parts in makers if parts == 0]),)
    word, parts = rng.choice(makers)
    return (word, *(random_term(rng, makers, names, deep - 1) for _ in range(parts)))


def random_constructor(rng, makers, families, word):
    names = list("wxyz")[:rng.randint(0, 4)]
    many = rng.choice([0, 1, 1, 2, 2, 3, 3]) if names else 0
    parts = tuple((rng.choice(families), random_term(rng, makers, names, rng.randint(1, 4))) for _ in range(many))
    have = names_in((word, parts))
    rng.shuffle(have)
    if have and rng.random() < 0.2:
        index = have[0]
    else:
        maker, count = rng.choice([(one, count) for one, count in makers if count <= len(have)])
        index = (maker, *have[:count])
    return (word, parts, rng.choice(families), index)


def random_table(rng, tried, states_of):
    """A random table with as many states as came up among so many tries."""
    counts = [0] + [rng.choice([0, 1, 1, 2]) for _ in range(rng.randint(1, 4))]
    makers = tuple((f"m{at}", count) for at, count in enumerate(counts))
    families = tuple("ABCD"[:rng.randint(1, 4)])
    rows = [random_constructor(rng, makers, families, f"C{at}") for at in range(rng.randint(4, 16))]
    table = ("table", makers, families, tuple(rows))
    best = 0
    for _ in range(tried):
        more = list(table[3])
        at = rng.randrange(len(more))
        more[at] = random_constructor(rng, makers, families, f"C{at}")
        other = table[:3] + (tuple(more),)
        if states_of(other) >= best:
            table = other
            best = states_of(other)
    return table


def random_tree(rng, makers, deep):
    """A random tree with one long branch."""
    inner = [one for one in makers if one[1]]
    if deep == 1 or not inner:
        return (rng.choice([word for word, parts in makers if parts == 0]),)
    word, parts = rng.choice(inner)
    long = rng.randrange(parts)
    return (word, *(random_tree(rng, makers, deep - 1 if at == long else min(deep - 1, rng.randint(1, 3)))
                    for at in range(parts)))


# Values that no function which takes any value may stumble over.
ANYTHING = (None, True, False, 0, 1, -1, "", "n", "zero", "machine", (), ((),), [], {}, [()], ["zero"], ("zero", 0),
            (None,), (True,), (0,), (("zero",),), ([],), ({},), {"zero": 0}, ("machine",), ("machine", (), ()),
            ("machine", None, None), ("machine", [], []), [("zero", (), "Even", "E")], [[]], [()], [None],
            [(None,) * 5], [([], [], [], [], [])], [({}, {}, {}, {}, {})], [("zero", (), [], [], [])])


def nested(deep, inside, kind):
    for _ in range(deep):
        inside = kind(inside)
    return inside
