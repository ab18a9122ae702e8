"""Points 407 and 408: rules, and when they are right."""

import copy
import random
import unittest

from exactkinds.machine import machine_of
from exactkinds.rules import are_right, rules_of
from tests.samples import (
    ANY, ANYTHING, COUNT, EVEN_ODD, GREAT, HIDDEN_FOUR, HIDDEN_ONE, LATE, PAIRS, SMALL, ZERO, are_right_by_hand, chain,
    hidden_in, nested, nx, pair, random_table)

E = ("zero", (), "Even", "E", ())
O = ("next", (("Even",),), "Odd", "O", ())
F = ("next", (("Odd",),), "Even", "F", ())
L = ("zero", (), "Late", "L", (chain(0),))


class Case(unittest.TestCase):

    def right(self, table, rules):
        told = copy.deepcopy((table, rules))
        self.assertIs(are_right(table, rules), True, rules)
        self.assertEqual((table, rules), told)

    def wrong(self, table, rules):
        told = copy.deepcopy((table, rules))
        self.assertIs(are_right(table, rules), False, rules)
        self.assertEqual((table, rules), told)


class RulesOf(Case):

    def test_they_are_right(self):
        for table in SMALL + (GREAT,):
            self.right(table, rules_of(table))
            self.assertTrue(are_right_by_hand(table, rules_of(table)))

    def test_of_random_tables(self):
        rng = random.Random(407)
        for _ in range(40):
            table = random_table(rng, 20, lambda one: len(machine_of(one)[1]))
            told = copy.deepcopy(table)
            rules = rules_of(table)
            self.right(table, rules)
            self.assertTrue(are_right_by_hand(table, rules))
            self.assertEqual(table, told)

    def test_a_new_list(self):
        rules_of(EVEN_ODD).clear()
        self.assertEqual(sorted(rules_of(EVEN_ODD)), sorted([E, O, F]))


class Right(Case):

    def test_lists_made_by_hand(self):
        self.right(EVEN_ODD, [])
        self.right(EVEN_ODD, [E, O, F])
        # What their sets have need not be told by any rule.
        self.right(EVEN_ODD, [F, O])
        self.right(EVEN_ODD, [("next", (("Even", "Odd"),), "Odd", "O", ())])

    def test_doubled_rules(self):
        self.right(EVEN_ODD, [E, E, O, F, O])

    def test_family_that_the_constructor_does_not_make(self):
        self.wrong(EVEN_ODD, [("zero", (), "Odd", "E", ())])
        self.wrong(EVEN_ODD, [("next", (("Even",),), "Even", "O", ())])
        for family in ("", "even", "E", None, True, 0, [], {}, ("Even",)):
            self.wrong(EVEN_ODD, [("zero", (), family, "E", ())])

    def test_other_maker(self):
        self.wrong(EVEN_ODD, [("next", (("Even",),), "Even", "E", ())])
        self.wrong(EVEN_ODD, [("zero", (), "Odd", "O", ())])
        for maker in ("", "Even", "E", "n", None, True, 0, [], {}, ("zero",), ["zero"]):
            self.wrong(EVEN_ODD, [(maker, (), "Even", "E", ())])
        # Both makers have as many parts.
        table = ("table", (("zero", 0), ("next", 1), ("last", 1)), ("A",), (
            ("Z", (), "A", ZERO), ("S", (("A", "n"),), "A", nx("n"))))
        self.right(table, [("next", (("A",),), "A", "S", ())])
        self.wrong(table, [("last", (("A",),), "A", "S", ())])

    def test_other_constructor(self):
        self.wrong(EVEN_ODD, [("next", (("Odd",),), "Odd", "O", ())])
        for word in ("F", "O", "", "e", "Even", "zero", None, True, 0, [], {}, ("E",)):
            self.wrong(EVEN_ODD, [("zero", (), "Even", word, ())])

    def test_sets_that_have_too_little(self):
        self.wrong(EVEN_ODD, [E, ("next", ((),), "Odd", "O", ()), F])
        self.wrong(EVEN_ODD, [E, ("next", (("Odd",),), "Odd", "O", ()), F])

    def test_form_of_sets(self):
        for sets in ((("Odd", "Even"),), (("Even", "Even"),), (("Even", "No"),), (["Even"],), ("Even",), (None,),
                     (True,), ({"Even": 1},), (("Even",), ()), (), [("Even",)], None, "Even", True, 1, {},
                     ((("Even",),),), (("Even", None),), (("Even", []),)):
            self.wrong(EVEN_ODD, [E, ("next", sets, "Odd", "O", ()), F])
        self.wrong(EVEN_ODD, [("zero", ((),), "Even", "E", ())])

    def test_parts_in_the_order_of_the_made_index(self):
        table = ("table", PAIRS, ("A", "B", "P"), (
            ("P", (("A", "m"), ("B", "n")), "P", pair("n", "m")),))
        self.right(table, [("pair", (("B",), ("A",)), "P", "P", ())])
        self.right(table, [("pair", (("A", "B"), ("A", "B")), "P", "P", ())])
        self.wrong(table, [("pair", (("A",), ("B",)), "P", "P", ())])
        self.wrong(table, [("pair", (("B",), ()), "P", "P", ())])

    def test_parts_at_deeper_indices(self):
        table = ("table", COUNT, ("A", "B", "C"), (
            ("A", (("B", nx(nx("n"))),), "A", nx("n")),
            ("B", (("C", "n"),), "B", nx("n")),
            ("C", (("B", "n"),), "C", nx("n"))))
        one = ("next", (("B",),), "C", "C", ())
        two = ("next", (("C",),), "B", "B", ())
        made = ("next", (("B",),), "A", "A", ())
        self.right(table, [one, two, made])
        self.right(table, [two, one, made])
        # B is told two further on by the second one, of C one further on by the first one.
        self.wrong(table, [one, made, two])
        self.wrong(table, [two, made, one])
        self.wrong(table, [made])
        self.wrong(table, [one, two, ("next", (("C",),), "A", "A", ())])

    def test_all_families_of_the_sets_must_be_told(self):
        table = ("table", COUNT, ("A", "B", "C"), (
            ("A", (("B", nx("n")), ("B", "n")), "A", nx("n")),
            ("B", (("C", "n"), ("B", "n")), "B", nx("n"))))
        two = ("next", (("B", "C"),), "B", "B", ())
        self.right(table, [two, ("next", (("B", "C"),), "A", "A", ())])
        self.wrong(table, [two, ("next", (("B",),), "A", "A", ())])

    def test_made_index_that_is_a_name(self):
        any_even = ("zero", (), "Any", "AE", ())
        self.right(ANY, [E, any_even])
        # The family at the tree itself must be told before, it is in no set.
        self.wrong(ANY, [any_even, E])
        self.wrong(ANY, [any_even])
        self.right(ANY, [O, ("next", (("Even",),), "Any", "AO", ())])
        self.right(ANY, [O, ("next", (("Even", "Any"),), "Any", "AO", ())])
        self.wrong(ANY, [O, ("next", (("Odd",),), "Any", "AO", ())])
        self.wrong(ANY, [O, ("next", (("Even",),), "Any", "AE", ())])
        self.wrong(ANY, [O, ("next", (("Any",),), "Any", "AO", ())])
        # Odd three further on than next(x1), and Any one further on.
        ahead = ("next", (("Odd",),), "Ahead", "AA", ())
        odd = ("next", (("Odd",),), "Any", "AE", ())
        above = ("next", (("Even",),), "Any", "AO", ())
        self.right(ANY, [O, F, odd, above, ahead])
        self.right(ANY, [F, O, above, ahead])
        self.wrong(ANY, [O, F, odd, ahead, above])
        self.wrong(ANY, [O, above, ahead, F])
        self.wrong(ANY, [F, O, above, ("next", (("Even",),), "Ahead", "AA", ())])

    def test_hidden_trees(self):
        some = ("zero", (), "Some", "H", (chain(1),))
        self.right(HIDDEN_ONE, [E, O, some])
        self.right(HIDDEN_ONE, [E, O, F, some[:4] + ((chain(19),),)])
        self.wrong(HIDDEN_ONE, [E, O, F, some[:4] + ((chain(18),),)])
        self.wrong(HIDDEN_ONE, [E, O, some[:4] + ((chain(3),),)])
        self.wrong(HIDDEN_ONE, [E, some, O])
        self.wrong(HIDDEN_ONE, [O, some])

    def test_form_of_hidden_trees(self):
        for hidden in ((), (chain(1), chain(1)), (("next",),), ("next",), ("h",), (nx("h"),), (["next", ZERO],),
                       (("next", ["zero"]),), [chain(1)], chain(1), None, True, 1, {}, "h", (None,), (True,), (0,),
                       (("next", ("zero", ZERO)),), (("nxt", ZERO),)):
            self.wrong(HIDDEN_ONE, [E, O, ("zero", (), "Some", "H", hidden)])
        self.wrong(EVEN_ODD, [("zero", (), "Even", "E", (ZERO,))])

    def test_hidden_trees_stand_in_the_order_of_first_places(self):
        # In the parts the names stand as d, c, b, a.
        both = ("pair", (("Odd",), ("Even",)), "Both", "P", ())
        trees = (chain(1), ZERO, chain(3), chain(2))
        self.right(HIDDEN_FOUR, [E, O, F, both, ("zero", (), "Both", "H", trees)])
        for at in range(4):
            other = trees[:at] + (nx(trees[at]),) + trees[at + 1:]
            self.wrong(HIDDEN_FOUR, [E, O, F, both, ("zero", (), "Both", "H", other)])
        self.wrong(HIDDEN_FOUR, [E, O, F, both, ("zero", (), "Both", "H", trees[::-1])])
        self.wrong(HIDDEN_FOUR, [E, O, F, ("zero", (), "Both", "H", trees), both])

    def test_rules_that_stand_ahead_of_what_they_need(self):
        # Late needs Odd three further on than its tree.
        self.right(LATE, [E, O, F, L])
        self.right(LATE, [F, O, E, L])
        self.wrong(LATE, [E, O, L, F])
        self.wrong(LATE, [E, F, L, O])
        self.wrong(LATE, [L, E, O, F])
        self.wrong(LATE, [E, O, F, L[:4] + ((chain(1),),)])

    def test_trees_that_are_nested_20_deep(self):
        for many in (17, 18, 19):
            rules = [E, O, F, ("zero", (), "Some", "H", (chain(many),))]
            self.assertIs(are_right(HIDDEN_ONE, rules), many != 18)


class AnyValue(Case):

    def test_no_list(self):
        rules = rules_of(EVEN_ODD)
        for value in (tuple(rules), {0: E}, {E: 1}, E, (E,), "", "E", None, True, False, 0, 1, ()):
            self.wrong(EVEN_ODD, value)

    def test_lists_of_other_things(self):
        for value in ANYTHING:
            if value != []:
                self.wrong(EVEN_ODD, value)
                self.wrong(EVEN_ODD, [value])
                self.wrong(EVEN_ODD, [E, value])

    def test_rules_of_other_lengths_and_kinds(self):
        for rule in (E[:4], E + ((),), list(E), (E,), E[1:], ()):
            self.wrong(EVEN_ODD, [rule])
            self.wrong(EVEN_ODD, [E, O, rule])

    def test_any_value_at_each_place(self):
        for rule, at in ((rule, at) for rule in (E, O, F) for at in range(5)):
            for value in ANYTHING:
                if value != rule[at]:
                    self.wrong(EVEN_ODD, [E, rule[:at] + (value,) + rule[at + 1:]])

    def test_deep_values(self):
        for kind in (lambda one: (one,), lambda one: [one], lambda one: {"E": one}, lambda one: ("next", one)):
            for at in range(5):
                value = nested(50, None, kind)
                self.wrong(HIDDEN_ONE, [E, O[:at] + (value,) + O[at + 1:]])
                self.wrong(HIDDEN_ONE, [E, O, ("zero", (), "Some", "H", (value,))])


class Changed(Case):
    """Right lists with a change each, and what the words of point 408 say of it."""

    def changed(self, rng, table, rules):
        rules = list(rules)
        at = rng.randrange(len(rules))
        maker, sets, family, word, hidden = rules[at]
        kind = rng.randrange(6)
        if kind == 0:
            del rules[at]
        elif kind == 1:
            rules.insert(rng.randrange(len(rules)), rules.pop(at))
        elif kind == 2:
            rules[at] = (maker, sets, rng.choice(table[2]), word, hidden)
        elif kind == 3:
            other = rng.choice(table[3])
            trees = tuple(self.leaf(table) for _ in hidden_in(other))
            rules[at] = (maker, sets, rng.choice([family, other[2]]), other[0], trees)
        elif kind == 4 and sets:
            place = rng.randrange(len(sets))
            chosen = tuple(one for one in table[2] if rng.random() < 0.5)
            rules[at] = (maker, sets[:place] + (chosen,) + sets[place + 1:], family, word, hidden)
        elif hidden:
            place = rng.randrange(len(hidden))
            rules[at] = (maker, sets, family, word, hidden[:place] + (self.leaf(table),) + hidden[place + 1:])
        return rules

    def leaf(self, table):
        return (next(word for word, parts in table[1] if parts == 0),)

    def test_as_the_words_say(self):
        rng = random.Random(408)
        told = []
        tables = list(SMALL) + [random_table(rng, 20, lambda one: len(machine_of(one)[1])) for _ in range(20)]
        for table in tables:
            rules = rules_of(table)
            for _ in range(60 if rules else 0):
                other = self.changed(rng, table, rules)
                right = are_right_by_hand(table, other)
                told.append(right)
                (self.right if right else self.wrong)(table, other)
        self.assertGreater(told.count(True), 300)
        self.assertGreater(told.count(False), 300)


if __name__ == "__main__":
    unittest.main()
