"""Points 102 to 107: terms, trees, their order, putting, fitting and the told unifier."""

import copy
import itertools
import random
import unittest

from exactkinds.indices import (
    depth, fitted, is_term, is_tree, names_of, order, put, size, trees, unified)

MAKERS = (("zero", 0), ("next", 1), ("pair", 2))
ZERO = ("zero",)
ONE = ("next", ZERO)
TWO = ("next", ONE)


def deep(many, inside):
    for _ in range(many):
        inside = ("next", inside)
    return inside


def all_trees(makers, most):
    """All trees up to a size, in no order that matters."""
    by_size = {}
    for total in range(1, most + 1):
        rows = []
        for word, parts in makers:
            for sizes in itertools.product(range(1, total), repeat=parts):
                if sum(sizes) == total - 1:
                    for row in itertools.product(*(by_size[one] for one in sizes)):
                        rows.append((word, *row))
        by_size[total] = rows
    return [tree for rows in by_size.values() for tree in rows]


def order_key(makers, tree):
    """A key that sorts as point 104 says, told in another way than the program does."""
    numbers = [word for word, _ in makers]
    inner = tuple(order_key(makers, part) for part in tree[1:])
    return (1 + sum(key[0] for key in inner), numbers.index(tree[0]), inner)


class Forms(unittest.TestCase):

    def test_terms_that_are_trees(self):
        for value in (ZERO, ONE, TWO, ("pair", ZERO, ONE), deep(199, ZERO)):
            self.assertIs(is_term(MAKERS, value), True)
            self.assertIs(is_tree(MAKERS, value), True)

    def test_trees_that_share_their_parts(self):
        tree, other = ZERO, ("pair", ZERO, "zero")
        for _ in range(100):
            tree, other = ("pair", tree, tree), ("pair", tree, other)
        self.assertIs(is_tree(MAKERS, tree), True)
        self.assertIs(is_tree(MAKERS, other), False)

    def test_terms_with_names_are_no_trees(self):
        for value in ("n", ("next", "n"), ("pair", ZERO, "n"), ("pair", "n", "n"), deep(199, "n")):
            self.assertIs(is_term(MAKERS, value), True)
            self.assertIs(is_tree(MAKERS, value), False)

    def test_any_string_but_a_maker_is_a_name(self):
        for name in ("", "i0", "n.1", "_", "0", "a b", "zer", "zeroo", "Zero", "x" * 100, "table"):
            self.assertIs(is_term(MAKERS, name), True, name)
            self.assertIs(is_term(MAKERS, ("next", name)), True, name)
            self.assertIs(is_tree(MAKERS, name), False, name)

    def test_what_is_no_term(self):
        wrong = [
            "zero", "next", "pair",
            ("next", "zero"), ("pair", "n", "pair"), ("pair", "next", "n"),
            ("zero", ZERO), ("zero", "n"), ("next",), ("next", ZERO, ZERO), ("pair", ZERO),
            ("pair",), ("pair", ZERO, ZERO, ZERO), ("next", "n", "n"), ("pair", "n"),
            ["zero"], ["next", ZERO], ("next", ["zero"]), ("next", ["n"]), ("pair", ZERO, ["zero"]),
            ("other",), ("other", ZERO), ("n",), ("n", ZERO), ("next", ("other",)), ("Zero",),
            (), ("next", ()), ("next", (ZERO,)), (ZERO,), ("pair", (), ZERO), ("pair", ZERO, ()),
            0, 1, -1, True, False, None, [], {}, {"zero": 0}, {"zero": ()},
            (0,), (True,), (None,), (1, ZERO), (["zero"],), ({},), (("zero",),), ([], ZERO),
            ("next", 0), ("next", True), ("next", None), ("next", []), ("next", {}),
            ("pair", ZERO, 0), ("pair", None, ZERO), ("pair", "n", 3),
        ]
        for value in wrong:
            self.assertIs(is_term(MAKERS, value), False, value)
            self.assertIs(is_tree(MAKERS, value), False, value)

    def test_a_fault_far_inside(self):
        for bad in (0, (), ["zero"], ("next",), "zero", ("other",)):
            self.assertIs(is_term(MAKERS, deep(50, bad)), False, bad)
            self.assertIs(is_tree(MAKERS, deep(50, bad)), False, bad)

    def test_the_makers_decide(self):
        self.assertIs(is_term((("n", 0),), "n"), False)
        self.assertIs(is_term((("n", 0),), ("n",)), True)
        self.assertIs(is_term((("n", 0),), "zero"), True)
        self.assertIs(is_term((("a", 0), ("next", 2)), ("next", "n")), False)
        self.assertIs(is_tree((("a", 0), ("next", 2)), ("next", ("a",), ("a",))), True)


class Measures(unittest.TestCase):

    def test_size(self):
        told = [("n", 1), (ZERO, 1), (ONE, 2), (("next", "n"), 2), (("pair", "n", "n"), 3),
                (("pair", ("pair", "a", ZERO), ("next", "b")), 6), (deep(199, "n"), 200),
                ("name", 1), ("", 1), (("pair", "name", "i0.1"), 3)]
        for term, many in told:
            self.assertEqual(size(term), many, term)

    def test_depth(self):
        told = [("n", 1), (ZERO, 1), (ONE, 2), (("next", "n"), 2), (("pair", "n", ONE), 3),
                (("pair", ONE, "n"), 3), (("pair", ("pair", "a", ZERO), ("next", "b")), 3),
                (("pair", "n", ("pair", "n", ("pair", "n", "n"))), 4), (deep(199, ZERO), 200),
                ("name", 1), ("", 1), (("next", "name"), 2)]
        for term, deepest in told:
            self.assertEqual(depth(term), deepest, term)

    def test_names_in_the_order_of_their_first_places(self):
        told = [("n", ["n"]), (ZERO, []), (TWO, []), (("pair", "b", "a"), ["b", "a"]),
                (("pair", "a", "a"), ["a"]),
                (("pair", ("pair", "c", "b"), ("pair", "a", "b")), ["c", "b", "a"]),
                (("pair", ("next", ("next", "z")), "a"), ["z", "a"]),
                (("pair", "a", ("pair", ("pair", "c", "b"), "a")), ["a", "c", "b"]),
                (deep(199, ""), [""])]
        for term, names in told:
            self.assertEqual(names_of(term), names, term)

    def test_names_are_a_new_list_each_time(self):
        term = ("pair", "a", "b")
        found = names_of(term)
        found.append("c")
        self.assertEqual(names_of(term), ["a", "b"])
        self.assertEqual(term, ("pair", "a", "b"))


class Order(unittest.TestCase):

    MANY_MAKERS = [
        (("zero", 0), ("next", 1), ("pair", 2)),
        (("pair", 2), ("next", 1), ("zero", 0)),
        (("next", 1), ("zero", 0), ("last", 0)),
        (("b", 2), ("y", 0), ("a", 2), ("x", 0)),
        (("u", 1), ("z", 0), ("v", 1)),
        (("x", 0), ("p", 2), ("q", 1), ("r", 2), ("s", 1)),
    ]

    def test_the_lesser_size_is_first(self):
        makers = (("pair", 2), ("next", 1), ("zero", 0))
        self.assertEqual(order(makers, TWO, ("pair", ZERO, TWO)), -1)
        self.assertEqual(order(makers, ("pair", ZERO, ZERO), ONE), 1)

    def test_of_one_size_the_maker_decides(self):
        self.assertEqual(order(MAKERS, TWO, ("pair", ZERO, ZERO)), -1)
        self.assertEqual(order(MAKERS, ("pair", ZERO, ZERO), TWO), 1)
        self.assertEqual(order((("b", 0), ("a", 0)), ("b",), ("a",)), -1)
        self.assertEqual(order((("b", 0), ("a", 0)), ("a",), ("b",)), 1)

    def test_of_one_maker_the_first_part_that_differs_decides(self):
        one = ("pair", ZERO, ("pair", ONE, ZERO))
        other = ("pair", ONE, ("pair", ZERO, ZERO))
        self.assertEqual(size(one), size(other))
        self.assertEqual(order(MAKERS, one, other), -1)
        self.assertEqual(order(MAKERS, other, one), 1)
        one = ("pair", ONE, ("pair", ZERO, ONE))
        other = ("pair", ONE, ("pair", ONE, ZERO))
        self.assertEqual(order(MAKERS, one, other), -1)
        self.assertEqual(order(MAKERS, other, one), 1)

    def test_the_part_may_be_far_inside(self):
        one, other = deep(150, TWO), deep(150, ("pair", ZERO, ZERO))
        self.assertEqual(order(MAKERS, one, other), -1)
        self.assertEqual(order(MAKERS, other, one), 1)
        self.assertEqual(order(MAKERS, one, deep(150, TWO)), 0)

    def test_all_pairs_both_ways(self):
        for makers in self.MANY_MAKERS:
            some = all_trees(makers, 6)[:60]
            for one in some:
                for other in some:
                    left, right = order_key(makers, one), order_key(makers, other)
                    told = (left > right) - (left < right)
                    self.assertEqual(order(makers, one, other), told, (makers, one, other))

    def test_the_first_trees(self):
        for makers in self.MANY_MAKERS:
            told = sorted(all_trees(makers, 7), key=lambda tree: order_key(makers, tree))
            for many in (0, 1, 2, 3, 7, 20, 60):
                if many <= len(told):
                    self.assertEqual(trees(makers, many), told[:many], (makers, many))

    def test_the_most_trees_that_are_asked_for(self):
        for makers in self.MANY_MAKERS:
            found = trees(makers, 200)
            self.assertEqual(len(found), 200)
            for one, other in zip(found, found[1:]):
                self.assertEqual(order(makers, one, other), -1)
            for tree in found:
                self.assertIs(is_tree(makers, tree), True)
        self.assertEqual(trees((("next", 1), ("zero", 0)), 200), [deep(k, ZERO) for k in range(200)])

    def test_fewer_trees_than_asked_for(self):
        makers = (("c", 0), ("a", 0), ("b", 0))
        self.assertEqual(trees(makers, 200), [("c",), ("a",), ("b",)])
        self.assertEqual(trees(makers, 3), [("c",), ("a",), ("b",)])
        self.assertEqual(trees(makers, 2), [("c",), ("a",)])
        self.assertEqual(trees((("one", 0),), 5), [("one",)])
        self.assertEqual(trees((("one", 0),), 0), [])
        self.assertEqual(trees((("next", 1), ("pair", 2)), 5), [])

    def test_sizes_that_no_tree_has(self):
        # With a pair alone there are trees of odd sizes only.
        makers = (("p", 2), ("x", 0))
        x = ("x",)
        told = [x, ("p", x, x), ("p", x, ("p", x, x)), ("p", ("p", x, x), x)]
        self.assertEqual(trees(makers, 4), told)

    def test_the_example(self):
        told = [ZERO, ONE, TWO, ("pair", ZERO, ZERO)]
        self.assertEqual(trees(MAKERS, 4), told)


class Putting(unittest.TestCase):

    def test_all_names_at_once(self):
        term = ("pair", "a", ("pair", "b", "a"))
        self.assertEqual(put(term, {"a": "b", "b": "a"}), ("pair", "b", ("pair", "a", "b")))
        told = ("pair", ("next", "a"), ("pair", ("next", "b"), ("next", "a")))
        self.assertEqual(put(term, {"a": ("next", "a"), "b": ("next", "b")}), told)
        self.assertEqual(put("a", {"a": "b", "b": ZERO}), "b")
        self.assertEqual(put("a", {"a": ("pair", "b", "a"), "b": ZERO}), ("pair", "b", "a"))

    def test_other_names_stay(self):
        self.assertEqual(put(("pair", "a", "c"), {"a": ZERO, "b": ONE}), ("pair", ZERO, "c"))
        self.assertEqual(put("c", {"a": ZERO}), "c")
        self.assertEqual(put(("pair", "a", "b"), {}), ("pair", "a", "b"))

    def test_makers_stay(self):
        self.assertEqual(put(ZERO, {"zero": ONE}), ZERO)
        self.assertEqual(put(("next", "n"), {"next": "m"}), ("next", "n"))

    def test_deep_terms(self):
        self.assertEqual(put(deep(198, "n"), {"n": ONE}), deep(199, ZERO))

    def test_nothing_is_changed(self):
        term, assignment = ("pair", "a", "b"), {"a": ("next", "b"), "b": "a"}
        put(term, assignment)
        self.assertEqual(term, ("pair", "a", "b"))
        self.assertEqual(assignment, {"a": ("next", "b"), "b": "a"})


class Fitting(unittest.TestCase):

    def test_the_examples(self):
        self.assertEqual(fitted([("next", "n"), "n"], [("next", "m"), "m"]), {"n": "m"})
        self.assertIsNone(fitted(["n", "n"], ["a", "b"]))

    def test_what_names_stand_for(self):
        self.assertEqual(fitted([], []), {})
        self.assertEqual(fitted(["n"], [TWO]), {"n": TWO})
        self.assertEqual(fitted([("next", "n")], [TWO]), {"n": ONE})
        self.assertEqual(fitted([ZERO], [ZERO]), {})
        self.assertEqual(fitted(["a", "b"], [ZERO, ONE]), {"a": ZERO, "b": ONE})
        pattern, term = ("pair", "b", ("next", "a")), ("pair", ONE, ("next", "x"))
        self.assertEqual(fitted([pattern], [term]), {"b": ONE, "a": "x"})

    def test_a_name_several_times(self):
        self.assertEqual(fitted([("pair", "n", "n")], [("pair", ONE, ONE)]), {"n": ONE})
        self.assertIsNone(fitted([("pair", "n", "n")], [("pair", ONE, ZERO)]))
        self.assertIsNone(fitted(["n", "n"], [ZERO, ONE]))
        self.assertIsNone(fitted(["n", ("next", "n")], [ONE, ("next", ZERO)]))
        self.assertEqual(fitted(["n", ("next", "n")], [ONE, TWO]), {"n": ONE})
        self.assertIsNone(fitted(["n", "n"], ["a", ("next", "a")]))

    def test_makers_that_differ(self):
        self.assertIsNone(fitted([ZERO], [ONE]))
        self.assertIsNone(fitted([("next", "n")], [ZERO]))
        self.assertIsNone(fitted([("next", "n")], [("pair", ZERO, ZERO)]))
        self.assertIsNone(fitted([("pair", "a", ("next", "b"))], [("pair", ZERO, ZERO)]))
        self.assertIsNone(fitted(["a", ZERO], [ZERO, ONE]))
        self.assertIsNone(fitted([ZERO], [("last",)]))
        self.assertIsNone(fitted([("next", "n")], [("more", "n")]))
        self.assertIsNone(fitted([("pair", "a", "b")], [("both", "a", "b")]))
        self.assertIsNone(fitted([("next", ("next", "n"))], [("next", ("more", ZERO))]))

    def test_names_of_the_terms_stand_for_themselves(self):
        self.assertIsNone(fitted([ZERO], ["n"]))
        self.assertIsNone(fitted([("next", "n")], ["n"]))
        self.assertIsNone(fitted([("next", "n")], ["m"]))
        self.assertIsNone(fitted([("s", "n")], ["sn"]))
        self.assertIsNone(fitted([("z",)], ["z"]))
        self.assertEqual(fitted(["n"], ["n"]), {"n": "n"})
        self.assertEqual(fitted(["n"], [("next", "n")]), {"n": ("next", "n")})
        self.assertEqual(fitted(["a", "b"], ["b", "a"]), {"a": "b", "b": "a"})
        self.assertIsNone(fitted(["a", "a"], ["b", "a"]))
        self.assertIsNone(fitted(["n", "m", "n"], ["m", "n", "n"]))
        self.assertEqual(fitted([("pair", "n", "m")], [("pair", ("next", "m"), "n")]),
                         {"n": ("next", "m"), "m": "n"})

    def test_tuples_as_well_as_lists(self):
        self.assertEqual(fitted((("next", "n"), "n"), (("next", "m"), "m")), {"n": "m"})
        self.assertIsNone(fitted(("n", "n"), ("a", "b")))

    def test_the_assignment_brings_the_patterns_to_the_terms(self):
        choice = random.Random(5)
        hits = 0
        for _ in range(4000):
            patterns = [some_term(choice, ["a", "b"], 3) for _ in range(choice.randint(1, 3))]
            if choice.random() < 0.5:
                what = {name: some_term(choice, ["a", "x"], 2) for name in ("a", "b")}
                terms = [put(pattern, what) for pattern in patterns]
            else:
                terms = [some_term(choice, ["a", "x"], 3) for _ in patterns]
            found = fitted(patterns, terms)
            self.assertEqual(found, naive_fit(patterns, terms))
            hits += found is not None
        self.assertGreater(hits, 1000)

    def test_nothing_is_changed(self):
        patterns, terms = [("pair", "n", "m"), "n"], [("pair", ZERO, "x"), ZERO]
        before = copy.deepcopy((patterns, terms))
        first = fitted(patterns, terms)
        first["n"] = "changed"
        self.assertEqual(fitted(patterns, terms), {"n": ZERO, "m": "x"})
        self.assertEqual((patterns, terms), before)


def some_term(choice, names, most):
    """A term over MAKERS, with some of the names, at most so deep."""
    which = choice.random()
    if which < 0.45 or most == 1:
        return choice.choice(names + [ZERO])
    if which < 0.7:
        return ("next", some_term(choice, names, most - 1))
    return ("pair", some_term(choice, names, most - 1), some_term(choice, names, most - 1))


def subterms(term):
    rows = [term]
    if isinstance(term, tuple):
        for part in term[1:]:
            rows.extend(subterms(part))
    return rows


def naive_fit(patterns, terms):
    """Try all subterms of the terms for each name."""
    names = sorted({name for pattern in patterns for name in names_of(pattern)})
    inner = list(dict.fromkeys(one for term in terms for one in subterms(term)))
    for row in itertools.product(inner, repeat=len(names)):
        told = dict(zip(names, row))
        if [put(pattern, told) for pattern in patterns] == list(terms):
            return told
    return None


class Unifying(unittest.TestCase):

    def test_the_examples(self):
        pairs = [(("pair", "b", "c"), ("pair", "a", ("next", "b")))]
        self.assertEqual(unified(pairs), {"b": "a", "c": ("next", "a")})
        self.assertIsNone(unified([("a", ("next", "a"))]))

    def test_nothing_to_do(self):
        self.assertEqual(unified([]), {})
        self.assertEqual(unified(()), {})
        self.assertEqual(unified([("a", "a")]), {})
        self.assertEqual(unified([(ZERO, ZERO), (("pair", "a", "b"), ("pair", "a", "b"))]), {})

    def test_the_first_name_in_the_order_of_strings_is_left(self):
        self.assertEqual(unified([("a", "b")]), {"b": "a"})
        self.assertEqual(unified([("b", "a")]), {"b": "a"})
        for row in itertools.permutations([("a", "d"), ("d", "c"), ("c", "b")]):
            self.assertEqual(unified(row), {"b": "a", "c": "a", "d": "a"}, row)
            swapped = [(other, one) for one, other in row]
            self.assertEqual(unified(swapped), {"b": "a", "c": "a", "d": "a"}, row)
        self.assertEqual(unified([("a", "B")]), {"a": "B"})
        self.assertEqual(unified([("i10", "i9")]), {"i9": "i10"})
        self.assertEqual(unified([("a", "")]), {"a": ""})
        self.assertEqual(unified([("b", "c"), ("e", "d"), ("c", "e")]), {"c": "b", "d": "b", "e": "b"})
        self.assertEqual(unified([("b", "c"), ("a", "d"), ("c", "d")]), {"b": "a", "c": "a", "d": "a"})

    def test_names_in_terms_are_also_the_first_ones(self):
        pairs = [("c", ("next", "b")), ("a", "b")]
        self.assertEqual(unified(pairs), {"b": "a", "c": ("next", "a")})
        self.assertEqual(unified(pairs[::-1]), {"b": "a", "c": ("next", "a")})
        pairs = [(("pair", "z", "y"), ("pair", "y", "x"))]
        self.assertEqual(unified(pairs), {"z": "x", "y": "x"})

    def test_names_that_get_makers(self):
        self.assertEqual(unified([("a", ZERO)]), {"a": ZERO})
        self.assertEqual(unified([(ONE, "a")]), {"a": ONE})
        self.assertEqual(unified([("a", "b"), ("b", ZERO)]), {"a": ZERO, "b": ZERO})
        self.assertEqual(unified([("b", ZERO), ("a", "b")]), {"a": ZERO, "b": ZERO})
        self.assertEqual(unified([("a", ("next", "b")), ("a", ("next", ZERO))]), {"a": ONE, "b": ZERO})
        self.assertEqual(unified([("a", ("next", "z"))]), {"a": ("next", "z")})

    def test_no_assigned_name_is_left(self):
        pairs = [("a", ("next", "b")), ("b", ("next", "c")), ("c", ("next", "d"))]
        told = {"a": deep(3, "d"), "b": deep(2, "d"), "c": deep(1, "d")}
        for row in itertools.permutations(pairs):
            self.assertEqual(unified(row), told, row)

    def test_pairs_that_hang_together(self):
        pairs = [(("pair", "a", "b"), ("pair", ("next", "c"), "c")), ("b", ZERO)]
        self.assertEqual(unified(pairs), {"a": ONE, "b": ZERO, "c": ZERO})
        pairs = [(("next", "a"), ("next", ("pair", "b", "c"))), ("a", ("pair", "c", ONE))]
        self.assertEqual(unified(pairs), {"a": ("pair", ONE, ONE), "b": ONE, "c": ONE})

    def test_makers_that_differ(self):
        self.assertIsNone(unified([(ZERO, ONE)]))
        self.assertIsNone(unified([(("next", "a"), ("pair", "a", "b"))]))
        self.assertIsNone(unified([(("next", "a"), ZERO)]))
        self.assertIsNone(unified([(ZERO, ("last",))]))
        self.assertIsNone(unified([(("next", "a"), ("more", "a"))]))
        self.assertIsNone(unified([(("pair", "a", "b"), ("both", "c", "d"))]))
        self.assertIsNone(unified([("a", ("next", "b")), ("c", ("more", "b")), ("a", "c")]))
        self.assertIsNone(unified([("a", ZERO), ("a", ONE)]))
        self.assertIsNone(unified([("a", ZERO), ("b", ONE), ("a", "b")]))
        self.assertIsNone(unified([(("pair", "a", "a"), ("pair", ZERO, ("next", "b")))]))

    def test_a_name_in_a_term_that_it_occurs_in(self):
        self.assertIsNone(unified([(("next", "a"), "a")]))
        self.assertIsNone(unified([("a", ("pair", ZERO, ("next", "a")))]))
        self.assertIsNone(unified([("a", ("next", "b")), ("b", ("next", "a"))]))
        self.assertIsNone(unified([("a", "b"), ("b", ("next", "a"))]))
        self.assertIsNone(unified([("b", ("next", "a")), ("a", "b")]))
        self.assertIsNone(unified([("a", ("next", "b")), ("b", ("next", "c")), ("c", ("next", "a"))]))
        self.assertIsNone(unified([("a", ("next", "b")), ("c", ("next", "d")), ("b", "c"), ("d", "a")]))
        self.assertEqual(unified([(("next", "a"), ("next", "a"))]), {})

    def test_terms_that_are_the_same_later(self):
        pairs = [("a", ("next", "b")), ("b", "c"), ("a", ("next", "c"))]
        self.assertEqual(unified(pairs), {"a": ("next", "b"), "c": "b"})

    def test_deep_terms(self):
        self.assertEqual(unified([(deep(199, "b"), deep(199, "a"))]), {"b": "a"})
        self.assertEqual(unified([(deep(99, "b"), deep(198, "a"))]), {"b": deep(99, "a")})
        self.assertIsNone(unified([(deep(99, "a"), deep(198, "a"))]))
        names = [f"n{k}" for k in range(100)]
        pairs = [(one, ("next", other)) for one, other in zip(names, names[1:])]
        told = {f"n{k}": deep(99 - k, "n99") for k in range(99)}
        self.assertEqual(unified(pairs), told)
        self.assertEqual(unified(pairs[::-1]), told)

    def test_long_rows_of_names(self):
        names = [f"n{k:03}" for k in range(300)]
        pairs = list(zip(names, names[1:]))
        told = {name: "n000" for name in names[1:]}
        self.assertEqual(unified(pairs), told)
        self.assertEqual(unified(pairs[::-1]), told)

    def test_nothing_is_changed(self):
        pairs = [(("pair", "b", "c"), ("pair", "a", ("next", "b"))), ("d", "a")]
        before = copy.deepcopy(pairs)
        unified(pairs)["b"] = "changed"
        self.assertEqual(pairs, before)
        self.assertEqual(unified(pairs), {"b": "a", "c": ("next", "a"), "d": "a"})


class UnifyingMany(unittest.TestCase):
    """The sentences of point 107, for many pairs of small terms."""

    NAMES = ["a", "b", "c", "d"]

    def check(self, pairs):
        told = unified(pairs)
        ground = self.ground_unifiers(pairs)
        if told is None:
            self.assertEqual(ground, [], pairs)
            return
        for one, other in pairs:
            self.assertEqual(put(one, told), put(other, told), pairs)
        self.check_form(pairs, told)
        for unifier in ground:
            for name in self.NAMES:
                self.assertEqual(put(put(name, told), unifier), unifier[name], pairs)

    def check_form(self, pairs, told):
        names = {name for pair in pairs for term in pair for name in names_of(term)}
        left = {name for term in told.values() for name in names_of(term)}
        self.assertLessEqual(set(told), names, pairs)
        self.assertFalse(left & set(told), pairs)
        for name, term in told.items():
            if isinstance(term, str):
                self.assertLess(term, name, pairs)

    def ground_unifiers(self, pairs):
        some = trees(MAKERS, 7)
        found = []
        for row in itertools.product(some, repeat=len(self.NAMES)):
            one = dict(zip(self.NAMES, row))
            if all(put(left, one) == put(right, one) for left, right in pairs):
                found.append(one)
        return found

    def test_many_pairs(self):
        choice = random.Random(11)
        unifiable = 0
        for _ in range(300):
            pairs = []
            for _ in range(choice.randint(1, 3)):
                pairs.append((some_term(choice, self.NAMES, 3), some_term(choice, self.NAMES, 3)))
            self.check(pairs)
            unifiable += unified(pairs) is not None
        self.assertGreater(unifiable, 60)

    def test_the_order_of_the_pairs_and_their_sides_do_not_matter(self):
        choice = random.Random(12)
        for _ in range(1500):
            pairs = []
            for _ in range(choice.randint(2, 4)):
                pairs.append((some_term(choice, self.NAMES, 3), some_term(choice, self.NAMES, 3)))
            told = unified(pairs)
            self.assertEqual(unified(pairs[::-1]), told, pairs)
            self.assertEqual(unified([(other, one) for one, other in pairs]), told, pairs)
            self.assertEqual(unified(tuple(pairs)), told, pairs)


if __name__ == "__main__":
    unittest.main()
