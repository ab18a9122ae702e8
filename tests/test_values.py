"""Points 303, 304 and 305: raw values, their families and indices, their order, and what is demanded of them."""

import copy
import itertools
import random
import unittest

from exactkinds.values import before, demanded, index_of, is_raw, size, values_of
from tests.samples import (
    ANYTHING, BALANCED, COUNT, EVEN_ODD, GREAT, HIDDEN_FOUR, HIDDEN_ONE, PAIRS, SMALL, VECTORS, ZERO, chain,
    index_by_hand, nested, nx, pair, parts_by_hand, random_table)

E = ("E",)
Z = ("Z",)
# The words of the constructors stand in no order, and so do their numbers of parts.
MIXED = ("table", PAIRS, ("Nat", "Two"), (
    ("S", (("Nat", "n"),), "Nat", nx("n")),
    ("B", (("Nat", "m"), ("Nat", "n")), "Two", pair("m", "n")),
    ("Z", (), "Nat", ZERO),
    ("A", (("Nat", "n"), ("Nat", "n"), ("Two", pair("n", "k"))), "Two", nx("n")),
    ("Y", (), "Nat", ZERO)))


def raws_by_hand(table, most):
    """All raw values up to a size, those of a size in their order."""
    rows = {0: []}
    for total in range(1, most + 1):
        rows[total] = [(one[0], *parts) for one in table[3]
                       for parts in parts_by_hand(rows, len(one[1]), total - 1)]
    return rows


def order_key(table, value):
    inner = tuple(order_key(table, part) for part in value[1:])
    return (1 + sum(key[0] for key in inner), [one[0] for one in table[3]].index(value[0]), inner)


class Raw(unittest.TestCase):

    def test_raw_values(self):
        for value in (Z, ("S", Z), ("S", ("S", Z)), ("B", Z, ("S", Z)), ("A", Z, Z, Z), ("S", ("B", Z, Z)),
                      ("A", ("A", Z, Z, Z), ("B", Z, Z), ("S", Z)), ("Y",)):
            told = copy.deepcopy(value)
            self.assertIs(is_raw(MIXED, value), True, value)
            self.assertEqual(value, told)

    def test_raw_values_need_no_index(self):
        self.assertIs(is_raw(MIXED, ("B", ("B", Z, Z), Z)), True)
        self.assertIsNone(index_of(MIXED, ("B", ("B", Z, Z), Z)))

    def test_too_few_and_too_many_parts(self):
        for value in (("Z", Z), ("S",), ("S", Z, Z), ("B", Z), ("B", Z, Z, Z), ("A", Z, Z), ("A", Z, Z, Z, Z),
                      ("S", ("S",)), ("B", Z, ("Z", Z))):
            self.assertIs(is_raw(MIXED, value), False, value)

    def test_words_that_are_no_constructors(self):
        for word in ("s", "", "Nat", "zero", "next", "table", "S ", "n", 0, 1, True, None, (), ("Z",), [], {}):
            self.assertIs(is_raw(MIXED, (word,)), False, word)
            self.assertIs(is_raw(MIXED, (word, Z)), False, word)
            self.assertIs(is_raw(MIXED, ("S", (word,))), False, word)

    def test_parts_of_other_kinds(self):
        for part in ("Z", "", None, True, False, 0, 1, [], ["Z"], {}, {"Z": 1}, (), [Z], (Z,), "n"):
            self.assertIs(is_raw(MIXED, part), False, part)
            self.assertIs(is_raw(MIXED, ("S", part)), False, part)
            self.assertIs(is_raw(MIXED, ("B", Z, part)), False, part)
            self.assertIs(is_raw(MIXED, ("B", part, Z)), False, part)
        self.assertIs(is_raw(MIXED, ["S", Z]), False)
        self.assertIs(is_raw(MIXED, ("S", ["Z"])), False)

    def test_any_value(self):
        for value in ANYTHING:
            self.assertIs(is_raw(EVEN_ODD, value), False, value)
            for kind in (lambda one: ("O", one), lambda one: [one], lambda one: (one,), lambda one: {"O": one}):
                self.assertIs(is_raw(EVEN_ODD, nested(50, value, kind)), False)

    def test_deep_values(self):
        self.assertIs(is_raw(EVEN_ODD, nested(199, E, lambda one: ("O", one))), True)
        self.assertIs(is_raw(EVEN_ODD, nested(199, "E", lambda one: ("O", one))), False)

    def test_table_without_constructors(self):
        self.assertIs(is_raw(("table", COUNT, ("A",), ()), ("zero",)), False)


class Indices(unittest.TestCase):

    def test_values(self):
        for value, kind in (
                (E, ("Even", ZERO)), (("O", E), ("Odd", chain(1))), (("F", ("O", E)), ("Even", chain(2)))):
            self.assertEqual(index_of(EVEN_ODD, value), kind)
        self.assertEqual(index_of(MIXED, ("B", ("S", Z), Z)), ("Two", pair(chain(1), ZERO)))
        self.assertEqual(index_of(MIXED, ("A", Z, ("Y",), ("B", Z, ("S", Z)))), ("Two", chain(1)))

    def test_part_without_an_index(self):
        wrong = ("O", ("O", E))
        self.assertIsNone(index_of(EVEN_ODD, wrong))
        self.assertIsNone(index_of(EVEN_ODD, ("F", wrong)))
        self.assertIsNone(index_of(EVEN_ODD, ("O", ("F", wrong))))
        self.assertIsNone(index_of(MIXED, ("B", Z, ("S", ("B", Z, Z)))))

    def test_part_of_another_family(self):
        self.assertIsNone(index_of(EVEN_ODD, ("F", E)))
        self.assertIsNone(index_of(MIXED, ("S", ("B", Z, Z))))
        self.assertIsNone(index_of(MIXED, ("B", ("B", Z, Z), Z)))

    def test_terms_that_do_not_fit_together(self):
        self.assertEqual(index_of(BALANCED, ("Left", ("Leaf",), ("Leaf",))), None)
        self.assertEqual(index_of(BALANCED, ("Full", ("Leaf",), ("Full", ("Leaf",), ("Leaf",)))), None)
        self.assertEqual(index_of(BALANCED, ("Full", ("Leaf",), ("Leaf",))), ("Bal", chain(1)))
        # A name stands in two and in three parts, once below a maker.
        self.assertIsNone(index_of(MIXED, ("A", Z, ("S", Z), ("B", Z, Z))))
        self.assertIsNone(index_of(MIXED, ("A", Z, Z, ("B", ("S", Z), Z))))
        self.assertIsNone(index_of(MIXED, ("A", ("S", Z), ("S", Z), ("B", Z, ("S", Z)))))

    def test_maker_that_does_not_fit(self):
        self.assertIsNone(index_of(MIXED, ("A", Z, Z, ("A", Z, Z, ("B", Z, Z)))))
        self.assertEqual(index_of(VECTORS, ("Cons", ("On",), ("Nil",))), ("Vec", ("s", ("z",))))

    def test_made_index_that_is_a_name(self):
        table = ("table", PAIRS, ("Nat", "Any", "Head"), MIXED[3][:1] + MIXED[3][2:3] + (
            ("I", (("Nat", "n"),), "Any", "n"),
            ("D", (("Any", nx("n")), ("Nat", "n")), "Head", "n"),
            ("T", (("Any", nx(nx("n"))), ("Head", nx("h"))), "Head", "n")))
        self.assertEqual(index_of(table, ("I", ("S", Z))), ("Any", chain(1)))
        self.assertEqual(index_of(table, ("D", ("I", ("S", Z)), Z)), ("Head", ZERO))
        self.assertIsNone(index_of(table, ("D", ("I", Z), Z)))
        self.assertIsNone(index_of(table, ("D", ("I", ("S", Z)), ("S", Z))))
        two = ("S", ("S", Z))
        deep = ("D", ("I", ("S", two)), two)
        self.assertEqual(index_of(table, ("T", ("I", ("S", two)), deep)), ("Head", chain(1)))
        self.assertIsNone(index_of(table, ("T", ("I", ("S", Z)), deep)))

    def test_hidden_names(self):
        self.assertEqual(index_of(HIDDEN_ONE, ("H", ("O", E))), ("Some", ZERO))
        self.assertEqual(index_of(HIDDEN_ONE, ("H", ("O", ("F", ("O", E))))), ("Some", ZERO))
        self.assertIsNone(index_of(HIDDEN_ONE, ("H", E)))
        both = ("P", ("O", E), E)
        self.assertEqual(index_of(HIDDEN_FOUR, both), ("Both", pair(chain(1), ZERO)))
        self.assertEqual(index_of(HIDDEN_FOUR, ("H", both, both, ("F", ("O", E)))), ("Both", ZERO))
        self.assertIsNone(index_of(HIDDEN_FOUR, ("H", both, both, E)))

    def test_all_raw_values_of_small_sizes(self):
        for table in SMALL + (MIXED,):
            for value in itertools.chain(*raws_by_hand(table, 4).values()):
                self.assertEqual(index_of(table, value), index_by_hand(table, value), value)

    def test_random_tables(self):
        rng = random.Random(303)
        for _ in range(60):
            table = random_table(rng, 1, len)
            for value in list(itertools.chain(*raws_by_hand(table, 3).values()))[:400]:
                self.assertEqual(index_of(table, value), index_by_hand(table, value), value)

    def test_nothing_is_changed(self):
        value = ("B", ("S", Z), Z)
        told = copy.deepcopy((MIXED, value))
        index_of(MIXED, value)
        self.assertEqual((MIXED, value), told)


class Shared(unittest.TestCase):
    """A value may have few tuples and endlessly many places."""

    def test_one_part_at_several_places(self):
        value = nested(100, ("Leaf",), lambda one: ("Full", one, one))
        self.assertIs(is_raw(BALANCED, value), True)
        self.assertEqual(index_of(BALANCED, value), ("Bal", chain(100)))
        self.assertEqual(size(value), 2 ** 101 - 1)

    def test_parts_that_share_their_parts(self):
        families = ("A", "B", "C", "D")
        table = ("table", COUNT, families, tuple(("Z" + one, (), one, ZERO) for one in families) + tuple(
            ("S" + one, tuple((other, "n") for other in families if other != one), one, nx("n")) for one in families))
        row = {one: ("Z" + one,) for one in families}
        for _ in range(60):
            row = {one: ("S" + one, *(row[other] for other in families if other != one)) for one in families}
        self.assertIs(is_raw(table, row["A"]), True)
        self.assertEqual(index_of(table, row["A"]), ("A", chain(60)))
        self.assertEqual(size(row["A"]), (3 ** 61 - 1) // 2)
        self.assertIs(is_raw(table, ("SA", row["A"], row["B"], "ZC")), False)
        self.assertIsNone(index_of(table, ("SA", row["B"], row["C"], row["C"])))

    def test_great_values_without_shared_parts(self):
        def full(deep, leaf):
            return ("B", full(deep - 1, leaf), full(deep - 1, "Z")) if deep else (leaf,)
        table = ("table", PAIRS, ("Nat",), (("Z", (), "Nat", ZERO), ("Y", (), "Nat", ZERO),
                                            ("B", (("Nat", "m"), ("Nat", "n")), "Nat", pair("m", "n"))))
        family, index = index_of(table, full(10, "Y"))
        self.assertEqual(family, "Nat")
        self.assertEqual(index, nested(10, ZERO, lambda one: pair(one, one)))
        self.assertEqual(size(full(10, "Y")), 2047)


class Order(unittest.TestCase):

    def test_size(self):
        for value, told in ((Z, 1), (("S", Z), 2), (("B", Z, ("S", Z)), 4), (("A", Z, Z, ("B", Z, Z)), 6)):
            self.assertEqual(size(value), told)
        self.assertEqual(size(nested(199, E, lambda one: ("O", one))), 200)

    def test_before(self):
        rows = (("Z",), ("Y",), ("S", ("Z",)), ("S", ("Y",)), ("S", ("S", Z)), ("S", ("S", ("Y",))),
                ("B", ("Z",), ("Z",)), ("B", ("Z",), ("Y",)), ("B", ("Y",), ("Z",)), ("S", ("B", Z, Z)),
                ("B", ("Z",), ("S", Z)), ("B", ("Y",), ("S", Z)), ("B", ("S", Z), Z), ("A", Z, Z, Z),
                ("A", ("Z",), ("Y",), Z), ("B", Z, ("B", Z, Z)))
        for (at, one), (place, other) in itertools.product(enumerate(rows), repeat=2):
            self.assertIs(before(MIXED, one, other), at < place, (one, other))

    def test_before_for_all_raw_values(self):
        for table in (MIXED, BALANCED, VECTORS):
            rows = list(itertools.chain(*raws_by_hand(table, 4).values()))[:120]
            self.assertEqual(rows, sorted(rows, key=lambda one: order_key(table, one)))
            for (at, one), (place, other) in itertools.product(enumerate(rows), repeat=2):
                self.assertIs(before(table, one, other), at < place, (one, other))

    def test_deep_values(self):
        one = nested(199, Z, lambda inner: ("S", inner))
        other = nested(199, ("Y",), lambda inner: ("S", inner))
        self.assertIs(before(MIXED, one, other), True)
        self.assertIs(before(MIXED, other, one), False)
        self.assertIs(before(MIXED, one, one), False)


class Values(unittest.TestCase):

    def test_even_and_odd(self):
        self.assertEqual(values_of(EVEN_ODD, 1), [E])
        self.assertEqual(values_of(EVEN_ODD, 2), [("O", E)])
        self.assertEqual(values_of(EVEN_ODD, 3), [("F", ("O", E))])
        self.assertEqual(values_of(EVEN_ODD, 4), [("O", ("F", ("O", E)))])

    def test_constructors_in_the_order_of_the_table(self):
        self.assertEqual(values_of(MIXED, 1), [("Z",), ("Y",)])
        self.assertEqual(values_of(MIXED, 2), [("S", ("Z",)), ("S", ("Y",))])
        self.assertEqual(values_of(MIXED, 3), [
            ("S", ("S", ("Z",))), ("S", ("S", ("Y",))), ("B", ("Z",), ("Z",)), ("B", ("Z",), ("Y",)),
            ("B", ("Y",), ("Z",)), ("B", ("Y",), ("Y",))])

    def test_against_all_raw_values(self):
        for table in SMALL + (MIXED, GREAT):
            rows = raws_by_hand(table, 4)
            for total in (1, 2, 3, 4):
                told = [value for value in rows[total] if index_by_hand(table, value)]
                self.assertEqual(values_of(table, total), told)
                self.assertEqual(len(set(told)), len(told))

    def test_random_tables(self):
        rng = random.Random(305)
        for _ in range(40):
            table = random_table(rng, 1, len)
            rows = raws_by_hand(table, 3)
            for total in (1, 2, 3):
                if len(rows[total]) < 3000:
                    told = [value for value in rows[total] if index_by_hand(table, value)]
                    self.assertEqual(values_of(table, total), told)

    def test_no_constructors(self):
        for total in (1, 2, 3, 4):
            self.assertEqual(values_of(("table", COUNT, ("A",), ()), total), [])

    def test_lists_are_new(self):
        values_of(MIXED, 1).clear()
        self.assertEqual(values_of(MIXED, 1), [("Z",), ("Y",)])


class Demanded(unittest.TestCase):

    AT = ("at", (("Fin", "n"), ("Vec", "n")), "Bit", ("z",), 0, (
        ((("Top", "k"), ("Cons", "x", "r")), "x"), ((("Pop", "i"), ("Cons", "x", "r")), ("at", "i", "r"))))
    NIL = ("Nil",)
    TOP = ("Top", ("Zero",))
    ONE = ("Cons", ("On",), NIL)
    TWO = ("Cons", ("On",), ONE)

    def test_trees_of_the_names(self):
        self.assertEqual(demanded(VECTORS, self.AT, (self.TOP, self.ONE)), {"n": ("s", ("z",))})
        self.assertEqual(demanded(VECTORS, self.AT, (("Pop", self.TOP), self.TWO)), {"n": ("s", ("s", ("z",)))})

    def test_several_names_and_terms_that_are_no_names(self):
        function = ("f", (("Vec", ("s", "m")), ("Fin", "k"), ("Bit", ("z",))), "Bit", ("z",), 0, ())
        self.assertEqual(demanded(VECTORS, function, (self.TWO, self.TOP, ("On",))),
                         {"m": ("s", ("z",)), "k": ("s", ("z",))})
        self.assertIsNone(demanded(VECTORS, function, (self.NIL, self.TOP, ("On",))))

    def test_no_names(self):
        function = ("f", (("Bit", ("z",)),), "Bit", ("z",), 0, ())
        self.assertEqual(demanded(VECTORS, function, (("On",),)), {})
        self.assertIsNone(demanded(VECTORS, function, (self.NIL,)))

    def test_other_family(self):
        self.assertIsNone(demanded(VECTORS, self.AT, (self.ONE, self.ONE)))
        self.assertIsNone(demanded(VECTORS, self.AT, (self.TOP, self.TOP)))
        self.assertIsNone(demanded(VECTORS, self.AT, (("Succ", ("Zero",)), self.ONE)))

    def test_value_without_an_index(self):
        self.assertIsNone(demanded(VECTORS, self.AT, (("Top", ("On",)), self.ONE)))
        self.assertIsNone(demanded(VECTORS, self.AT, (self.TOP, ("Cons", self.NIL, self.NIL))))

    def test_terms_that_do_not_fit_together(self):
        self.assertIsNone(demanded(VECTORS, self.AT, (self.TOP, self.TWO)))
        self.assertIsNone(demanded(VECTORS, self.AT, (("Pop", self.TOP), self.ONE)))
        self.assertIsNone(demanded(VECTORS, self.AT, (self.TOP, self.NIL)))

    def test_nothing_is_changed(self):
        values = (self.TOP, self.ONE)
        told = copy.deepcopy((VECTORS, self.AT, values))
        demanded(VECTORS, self.AT, values).clear()
        self.assertEqual((VECTORS, self.AT, values), told)
        self.assertEqual(demanded(VECTORS, self.AT, values), {"n": ("s", ("z",))})


if __name__ == "__main__":
    unittest.main()
