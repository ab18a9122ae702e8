"""Points 400 to 404: the machine of a table, its states and their trees, and values at trees."""

import copy
import itertools
import random
import time
import unittest

from exactkinds.machine import (
    holding, into, is_single, least, machine_of, second, state_of, step, value_at)
from exactkinds.rules import rules_of
from exactkinds.upholding import is_model, is_upheld
from exactkinds.values import index_of
from tests.samples import (
    ALONE, ANY, BALANCED, BARE, COUNT, CROSSED, DOUBLING, EVEN_ODD, GREAT, HIDDEN_FOUR, HIDDEN_ONE, HIDDEN_THREE,
    HIDDEN_TWO, LATE, NOWHERE, PAIRS, PLAIN, SIX, SMALL, SWAPPED, THREE, VECTORS, ZERO, chain, depth_by_hand,
    index_by_hand, is_model_by_hand, nested, nx, pair, random_table, random_tree, trees_by_hand)


def counting(states, *steps):
    """The machine over zero and next with these states of zero and of the trees above each state."""
    rows = (("zero", (), steps[0]),) + tuple(("next", (at,), one) for at, one in enumerate(steps[1:]))
    return ("machine", states, rows)


def pairing(states, zero, above, pairs):
    """The machine over zero, next and pair; pairs has a row of states for each first part."""
    rows = [("zero", (), zero)] + [("next", (at,), one) for at, one in enumerate(above)]
    rows += [("pair", (one, other), made) for one, row in enumerate(pairs) for other, made in enumerate(row)]
    return ("machine", states, tuple(rows))


class Machines(unittest.TestCase):

    def tells(self, table, machine):
        told = copy.deepcopy(table)
        self.assertEqual(machine_of(table), machine)
        self.assertEqual(table, told)

    def test_two_in_turn(self):
        self.tells(EVEN_ODD, (
            "machine", (("Even",), ("Odd",)), (("zero", (), 0), ("next", (0,), 1), ("next", (1,), 0))))

    def test_three_in_turn(self):
        self.tells(THREE, counting((("A",), ("B",), ("C",)), 0, 1, 2, 0))

    def test_six_in_turn(self):
        states = (("A", "B"), ("A", "C"), ("A", "D"), ("B", "C"), ("B", "D"), ("C", "D"))
        self.tells(SIX, counting(states, 0, 1, 2, 3, 4, 5, 0))

    def test_state_without_families(self):
        self.tells(PLAIN, pairing((("Nat",), ()), 0, (0, 1), ((1, 1), (1, 1))))

    def test_no_constructors(self):
        self.tells(BARE, pairing(((),), 0, (0,), ((0,),)))

    def test_families_at_one_tree_alone(self):
        self.tells(ALONE, counting((("Nought",), ("One",), ()), 0, 1, 2, 2))

    def test_balanced_trees(self):
        self.tells(BALANCED, counting((("Bal",), ("Bal", "Lower")), 0, 1, 1))

    def test_vectors(self):
        states = (("Bit", "Nat", "Vec"), ("Nat", "Fin", "Vec"))
        self.tells(VECTORS, ("machine", states, (("z", (), 0), ("s", (0,), 1), ("s", (1,), 1))))

    def test_maker_with_two_parts(self):
        # The empty state is that of pair(zero, pair(zero, zero)); C comes at a tree of the size 7.
        states = (("A",), ("B",), (), ("C",), ("D",))
        same = {0: 1, 1: 3, 3: 4, 4: 0}
        steps = (("zero", (), 0),) + tuple(
            ("pair", (one, other), same[one] if one == other and one in same else 2)
            for one in range(5) for other in range(5))
        self.tells(DOUBLING, ("machine", states, steps))

    def test_makers_in_another_order(self):
        # 0 is B, 1 is A, 2 is without families; the steps go by the makers in the order of the table.
        pairs = tuple(("pair", (one, other), 1 if (one, other) == (1, 0) else 2)
                      for one in range(3) for other in range(3))
        others = (("b", (), 0), ("next", (0,), 2), ("next", (1,), 0), ("next", (2,), 2), ("a", (), 1))
        self.tells(SWAPPED, ("machine", (("B",), ("A",), ()), pairs + others))

    def test_makers_without_parts_alone(self):
        makers = (("c", 0), ("a", 0), ("b", 0))
        constructors = (("B", (), "Q", ("b",)), ("A", (), "P", ("a",)), ("D", (), "Q", ("c",)))
        self.tells(("table", makers, ("P", "Q"), constructors), (
            "machine", (("Q",), ("P",)), (("c", (), 0), ("a", (), 1), ("b", (), 0))))

    def test_made_index_that_is_a_name(self):
        self.tells(ANY, counting((("Even", "Any", "Ahead"), ("Odd", "Any")), 0, 1, 0))

    def test_part_at_a_deeper_index(self):
        # Before holds where Odd holds one further on, and Far where Before and Odd hold on both sides of a pair.
        table = ("table", PAIRS, ("Even", "Odd", "Before", "Far"), EVEN_ODD[3] + (
            ("B", (("Odd", nx("n")),), "Before", "n"),
            ("P", (("Before", "m"), ("Odd", "n")), "Far", pair("m", "n")),
            ("C", (("Far", pair("m", nx("n"))), ("Far", pair(nx("n"), nx("m")))), "Far", pair("n", "m")),
            ("D", (("Far", pair("n", nx("n"))),), "Far", "n")))
        states = (("Even", "Before", "Far"), ("Odd",), (), ("Far",))
        self.tells(table, pairing(states, 0, (1, 0, 2, 2), (
            (2, 3, 2, 2), (2, 2, 2, 2), (2, 2, 2, 2), (2, 2, 2, 2))))

    def test_hidden_names(self):
        self.tells(HIDDEN_ONE, counting((("Even", "Some"), ("Odd",), ("Even",)), 0, 1, 2, 1))
        self.tells(HIDDEN_TWO, pairing((("Even",), ("Odd", "Both"), (), ("Both",)), 0, (1, 0, 2, 2), (
            (2, 2, 2, 2), (3, 2, 2, 2), (2, 2, 2, 2), (2, 2, 2, 2))))
        self.tells(HIDDEN_THREE, pairing((("Even", "Both"), ("Odd",), (), ("Both",)), 0, (1, 0, 2, 2), (
            (2, 2, 2, 2), (3, 2, 2, 2), (2, 2, 2, 2), (2, 2, 2, 2))))
        odd, none, both = 1, 3, 4
        self.tells(HIDDEN_FOUR, pairing(
            (("Even", "Both"), ("Odd",), ("Even",), (), ("Both",)), 0, (odd, 2, odd, none, none), (
                (3, 3, 3, 3, 3), (both, 3, both, 3, 3), (3, 3, 3, 3, 3), (3, 3, 3, 3, 3), (3, 3, 3, 3, 3))))

    def test_families_that_hold_nowhere(self):
        self.tells(NOWHERE, counting((("Nat",),), 0, 0))

    def test_hidden_name_without_a_tree(self):
        table = ("table", COUNT, ("Even", "Odd", "Late"), EVEN_ODD[3] + (
            ("L", (("Odd", "h"), ("Even", "h")), "Late", ZERO),))
        self.tells(table, counting((("Even",), ("Odd",)), 0, 1, 0))

    def test_states_stand_in_the_order_of_their_first_trees(self):
        # Late is found at zero only when Odd is known further on.
        self.tells(LATE, counting((("Even", "Late"), ("Odd",), ("Even",)), 0, 1, 2, 1))
        none, d, both = 3, 4, 5
        self.tells(CROSSED, pairing((("A",), ("B",), ("C",), (), ("D",), ("C", "D")), 0, (1, 2, d, none, none, d), (
            (none, both, none, none, none, none), (none, d, none, none, none, none)) + ((none,) * 6,) * 4))
        # Of one size, the maker with the lesser number is first, whatever the constructors' order.
        for one, other in ((0, 1), (1, 0)):
            makers = (("f", 1), ("g", 1), ("a", 0))
            constructors = (("F", (("Z", "n"),), "P", ("f", "n")), ("G", (("Z", "n"),), "Q", ("g", "n")),
                            ("A", (), "Z", ("a",)))
            table = ("table", makers, ("Q", "P", "Z"), (constructors[one], constructors[other], constructors[2]))
            self.tells(table, ("machine", (("Z",), ("P",), ("Q",), ()), (
                ("f", (0,), 1), ("f", (1,), 3), ("f", (2,), 3), ("f", (3,), 3),
                ("g", (0,), 2), ("g", (1,), 3), ("g", (2,), 3), ("g", (3,), 3), ("a", (), 0))))

    def test_order_and_words_of_constructors(self):
        rng = random.Random(403)
        for table in SMALL + (GREAT,):
            machine = machine_of(table)
            for _ in range(4):
                rows = [(f"W{at}", *one[1:]) for at, one in enumerate(table[3])]
                rng.shuffle(rows)
                self.assertEqual(machine_of(table[:3] + (tuple(rows),)), machine)

    def test_words_change_the_words_alone(self):
        words = {"zero": "o", "next": "s", "Even": "G", "Odd": "U"}

        def renamed(value):
            return tuple(map(renamed, value)) if isinstance(value, tuple) else words.get(value, value)

        self.assertEqual(machine_of(renamed(EVEN_ODD)), renamed(machine_of(EVEN_ODD)))

    def test_constructor_more(self):
        table = EVEN_ODD[:3] + (EVEN_ODD[3] + (("G", (("Even", "n"),), "Even", nx("n")),),)
        self.tells(table, counting((("Even",), ("Even", "Odd")), 0, 1, 1))
        table = PLAIN[:3] + (PLAIN[3] + (("P", (("Nat", "m"), ("Nat", "n")), "Nat", pair("m", "n")),),)
        self.tells(table, pairing((("Nat",),), 0, (0,), ((0,),)))
        table = EVEN_ODD[:3] + (EVEN_ODD[3] + (("G", (("Even", nx("n")), ("Odd", "n")), "Odd", "n"),),)
        self.tells(table, machine_of(EVEN_ODD))

    def test_constructor_more_takes_no_family_away(self):
        rng = random.Random(400)
        for _ in range(60):
            table = random_table(rng, 10, lambda one: len(machine_of(one)[1]))
            shorter = table[:3] + (table[3][:-1],)
            elder, newer = machine_of(shorter), machine_of(table)
            for tree in trees_by_hand(table[1], 5)[:60]:
                self.assertLessEqual(set(holding(elder, state_of(elder, tree))),
                                     set(holding(newer, state_of(newer, tree))))


class States(unittest.TestCase):

    def test_state_of(self):
        machine = machine_of(EVEN_ODD)
        for many in range(200):
            self.assertEqual(state_of(machine, chain(many)), many % 2)
        machine = machine_of(SWAPPED)
        for tree, state in ((("b",), 0), (("a",), 1), (("pair", ("a",), ("b",)), 1), (("pair", ("b",), ("a",)), 2),
                            (("next", ("pair", ("a",), ("next", ("a",)))), 0)):
            self.assertEqual(state_of(machine, tree), state)

    def test_state_of_trees_that_share_their_parts(self):
        machine = machine_of(DOUBLING)
        for many in range(100):
            self.assertEqual(holding(machine, state_of(machine, nested(many, ZERO, lambda one: pair(one, one)))),
                             ("ABCD"[many % 4],))

    def test_step(self):
        for table in SMALL:
            machine = machine_of(table)
            for maker, parts, state in machine[2]:
                self.assertEqual(step(machine, maker, parts), state)
        self.assertEqual(step(machine_of(SWAPPED), "pair", (1, 0)), 1)
        self.assertEqual(step(machine_of(SWAPPED), "pair", (0, 1)), 2)

    def test_holding(self):
        machine = machine_of(LATE)
        self.assertEqual([holding(machine, state) for state in range(3)], [("Even", "Late"), ("Odd",), ("Even",)])
        self.assertEqual(holding(machine_of(BARE), 0), ())

    def test_into(self):
        machine = machine_of(SWAPPED)
        self.assertEqual(into(machine, 0), [("b", ()), ("next", (1,))])
        self.assertEqual(into(machine, 1), [("pair", (1, 0)), ("a", ())])
        for table in SMALL:
            machine = machine_of(table)
            for state in range(len(machine[1])):
                told = [(maker, parts) for maker, parts, made in machine[2] if made == state]
                self.assertEqual(into(machine, state), told)
        found = into(machine, 0)
        found.clear()
        self.assertNotEqual(into(machine, 0), [])


class Trees(unittest.TestCase):

    def tells(self, table, firsts, seconds):
        machine = machine_of(table)
        told = copy.deepcopy(machine)
        states = range(len(machine[1]))
        self.assertEqual([least(machine, state) for state in states], firsts)
        self.assertEqual([second(machine, state) for state in states], seconds)
        self.assertEqual([is_single(machine, state) for state in states], [one is None for one in seconds])
        self.assertEqual(machine, told)

    def test_next_tree_of_the_state(self):
        self.tells(EVEN_ODD, [ZERO, chain(1)], [chain(2), chain(3)])
        self.tells(THREE, [ZERO, chain(1), chain(2)], [chain(3), chain(4), chain(5)])
        self.tells(BALANCED, [ZERO, chain(1)], [None, chain(2)])

    def test_single_states(self):
        self.tells(ALONE, [ZERO, chain(1), chain(2)], [None, None, chain(3)])
        self.tells(LATE, [ZERO, chain(1), chain(2)], [None, chain(3), chain(4)])
        self.tells(("table", (("a", 0),), ("A",), ()), [("a",)], [None])
        self.tells(("table", (("a", 0), ("b", 0)), ("A",), ()), [("a",)], [("b",)])

    def test_second_tree_that_is_much_greater(self):
        self.tells(SIX, [chain(many) for many in range(6)], [chain(many) for many in range(6, 12)])
        full = [nested(many, ZERO, lambda one: pair(one, one)) for many in range(5)]
        second_b = pair(ZERO, full[4])
        second_c = pair(full[1], second_b)
        self.tells(DOUBLING, [full[0], full[1], pair(ZERO, full[1]), full[2], full[3]],
                   [full[4], second_b, pair(full[1], ZERO), second_c, pair(full[2], second_c)])

    def test_makers_in_another_order(self):
        a, b = ("a",), ("b",)
        self.tells(SWAPPED, [b, a, nx(b)], [nx(a), pair(a, b), pair(b, b)])

    def test_against_all_small_trees(self):
        rng = random.Random(404)
        tables = [random_table(rng, 25, lambda one: len(machine_of(one)[1])) for _ in range(40)]
        for table in list(SMALL) + tables:
            machine = machine_of(table)
            found = {}
            small = trees_by_hand(table[1], 5)
            for tree in small:
                found.setdefault(state_of(machine, tree), []).append(tree)
            # The states are numbered in the order of their first trees.
            self.assertEqual(list(found), list(range(len(found))))
            for state in range(len(machine[1])):
                rows = found.get(state, [])
                one, other = least(machine, state), second(machine, state)
                self.assertEqual(state_of(machine, one), state)
                if rows:
                    self.assertEqual(one, rows[0])
                else:
                    self.assertNotIn(one, small)
                if len(rows) > 1:
                    self.assertEqual(other, rows[1])
                elif other is not None:
                    self.assertNotIn(other, small)
                    self.assertEqual(state_of(machine, other), state)


class ValuesAt(unittest.TestCase):

    def tells(self, table, machine, tree):
        for family in table[2]:
            value = value_at(table, machine, family, tree)
            if family in holding(machine, state_of(machine, tree)):
                self.assertEqual(index_by_hand(table, value), (family, tree))
                self.assertEqual(index_of(table, value), (family, tree))
                self.assertLessEqual(depth_by_hand(value), 100)
            else:
                self.assertIsNone(value)

    def test_small_trees(self):
        for table in SMALL:
            machine = machine_of(table)
            for tree in trees_by_hand(table[1], 6)[:60]:
                self.tells(table, machine, tree)

    def test_nothing_is_changed(self):
        machine = machine_of(EVEN_ODD)
        given = (EVEN_ODD, machine, chain(5))
        told = copy.deepcopy(given)
        self.assertEqual(value_at(EVEN_ODD, machine, "Even", chain(2)), ("F", ("O", ("E",))))
        self.assertIsNone(value_at(EVEN_ODD, machine, "Odd", chain(2)))
        self.assertEqual(given, told)

    def test_trees_that_are_nested_24_deep(self):
        rng = random.Random(24)
        for table in SMALL + (GREAT,):
            machine = machine_of(table)
            for deep in (20, 23, 24):
                self.tells(table, machine, random_tree(rng, table[1], deep))
        for many in range(24):
            self.tells(SIX, machine_of(SIX), chain(many))
        for many in range(8):
            self.tells(DOUBLING, machine_of(DOUBLING), nested(many, ZERO, lambda one: pair(one, one)))

    def test_values_with_very_many_places(self):
        families = ("A", "B", "C", "D")
        table = ("table", COUNT, families, tuple(("Z" + one, (), one, ZERO) for one in families) + tuple(
            ("S" + one, tuple((other, "n") for other in families if other != one), one, nx("n")) for one in families))
        self.tells(table, machine_of(table), chain(23))

    def test_values_that_need_not_be_deep(self):
        # The first reason that is found for B needs D, whose values are far deeper than those of A.
        table = ("table", COUNT, ("A", "B", "C", "D"), (
            ("Z", (), "B", ZERO),
            ("Q", (("B", "w"),), "D", ZERO),
            ("R", (("B", nx("x")), ("D", ZERO), ("B", nx("z"))), "C", ZERO),
            ("S", (("A", "w"), ("C", ZERO)), "A", ZERO),
            ("T", (("A", "w"), ("D", nx(ZERO)), ("A", "w")), "A", nx("w")),
            ("U", (("B", nx(nx("w"))), ("B", "y")), "D", nx("w")),
            ("V", (("C", ZERO), ("C", "x")), "A", nx("x")),
            ("W", (("D", "w"), ("D", ZERO)), "B", nx("w")),
            ("X", (("A", ZERO), ("A", "x"), ("A", "y")), "B", nx("x")),
            ("Y", (("B", nx(nx("x"))), ("B", ZERO), ("B", "x")), "C", "x")))
        machine = machine_of(table)
        self.assertEqual(machine[1], (("A", "B", "C", "D"),))
        for many, family in itertools.product(range(24), "AB"):
            value = value_at(table, machine, family, chain(many))
            self.assertEqual(index_by_hand(table, value), (family, chain(many)))
            self.assertLessEqual(depth_by_hand(value), 40)

    def test_random_tables(self):
        rng = random.Random(304)
        for _ in range(60):
            table = random_table(rng, 25, lambda one: len(machine_of(one)[1]))
            machine = machine_of(table)
            self.assertTrue(is_model(table, machine))
            if len(machine[1]) < 7:
                self.assertTrue(is_model_by_hand(table, machine))
            for tree in trees_by_hand(table[1], 4)[:20] + [random_tree(rng, table[1], 24)]:
                self.tells(table, machine, tree)


class Great(unittest.TestCase):

    def test_sixteen_states(self):
        start = time.monotonic()
        machine = machine_of(GREAT)
        rules = rules_of(GREAT)
        self.assertIs(is_upheld(GREAT, machine, rules), True)
        self.assertLess(time.monotonic() - start, 10)
        subsets = [tuple(one for one in GREAT[2] if one in chosen)
                   for many in range(5) for chosen in itertools.combinations(GREAT[2], many)]
        self.assertEqual(sorted(machine[1]), sorted(subsets))
        self.assertEqual(len(machine[2]), 1 + 16 + 16 + 256 + 256)
        self.assertTrue(is_model_by_hand(GREAT, machine))

    def test_values_of_all_states(self):
        machine = machine_of(GREAT)
        for state in range(16):
            for tree in (least(machine, state), second(machine, state)):
                self.assertEqual(state_of(machine, tree), state)
                for family in GREAT[2]:
                    value = value_at(GREAT, machine, family, tree)
                    told = (family, tree) if family in holding(machine, state) else None
                    self.assertEqual(value and index_by_hand(GREAT, value), told)

    def test_great_terms_with_four_hidden_names(self):
        rng = random.Random(16)

        def full(deep):
            return rng.choice("abcd") if deep == 1 else (rng.choice("pq"), full(deep - 1), full(deep - 1))

        # Each of these asks for nothing more than the last one of GREAT does, so that all sixteen states stay.
        rows = list(GREAT[3])
        for at in (12, 13, 15):
            parts = tuple((rng.choice("ABCD"), full(4)) for _ in range(3))
            rows[at] = (f"N{at}", parts, "A", ("o",))
        table = GREAT[:3] + (tuple(rows),)
        start = time.monotonic()
        machine = machine_of(table)
        self.assertIs(is_upheld(table, machine, rules_of(table)), True)
        self.assertLess(time.monotonic() - start, 10)
        self.assertEqual(len(machine[1]), 16)


if __name__ == "__main__":
    unittest.main()
