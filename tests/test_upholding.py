"""Points 405, 406 and 409: formed machines, models, and what upholds a machine."""

import copy
import itertools
import random
import unittest

from exactkinds.machine import machine_of
from exactkinds.rules import rules_of
from exactkinds.upholding import is_formed, is_model, is_upheld
from tests.samples import (
    ALONE, ANY, ANYTHING, BARE, COUNT, DOUBLING, EVEN_ODD, GREAT, HIDDEN_FOUR, HIDDEN_THREE, HIDDEN_TWO, LATE, PAIRS,
    PLAIN, SIX, SMALL, SWAPPED, ZERO, are_right_by_hand, are_steps_told_by_hand, chain, is_model_by_hand, nested, nx,
    random_table)

E = ("zero", (), "Even", "E", ())
O = ("next", (("Even",),), "Odd", "O", ())
F = ("next", (("Odd",),), "Even", "F", ())
TURNS = ("machine", (("Even",), ("Odd",)), (("zero", (), 0), ("next", (0,), 1), ("next", (1,), 0)))


def with_states(machine, states):
    return (machine[0], tuple(states), machine[2])


def with_steps(machine, steps):
    return (machine[0], machine[1], tuple(steps))


def reordered(machine, places):
    """The same machine with the state that was at places[k] at k."""
    where = {old: new for new, old in enumerate(places)}
    steps = {(maker, tuple(where[part] for part in parts)): where[state] for maker, parts, state in machine[2]}
    makers = list(dict.fromkeys(maker for maker, _, _ in machine[2]))
    rows = sorted(steps, key=lambda one: (makers.index(one[0]), one[1]))
    return ("machine", tuple(machine[1][old] for old in places),
            tuple((maker, parts, steps[maker, parts]) for maker, parts in rows))


class Case(unittest.TestCase):

    def formed(self, table, machine):
        told = copy.deepcopy((table, machine))
        self.assertIs(is_formed(table, machine), True, machine)
        self.assertEqual((table, machine), told)

    def no_machine(self, table, machine):
        told = copy.deepcopy((table, machine))
        self.assertIs(is_formed(table, machine), False, machine)
        self.assertIs(is_model(table, machine), False, machine)
        self.assertIs(is_upheld(table, machine, rules_of(table)), False, machine)
        self.assertEqual((table, machine), told)

    def model(self, table, machine):
        self.formed(table, machine)
        self.assertIs(is_model(table, machine), True, machine)

    def no_model(self, table, machine):
        self.formed(table, machine)
        self.assertIs(is_model(table, machine), False, machine)
        self.assertIs(is_upheld(table, machine, rules_of(table)), False, machine)

    def upheld(self, table, machine, rules):
        told = copy.deepcopy((table, machine, rules))
        self.assertIs(is_upheld(table, machine, rules), True)
        self.assertEqual((table, machine, rules), told)

    def not_upheld(self, table, machine, rules):
        told = copy.deepcopy((table, machine, rules))
        self.assertIs(is_upheld(table, machine, rules), False)
        self.assertEqual((table, machine, rules), told)


class Formed(Case):

    def test_machines_of_tables(self):
        for table in SMALL + (GREAT,):
            self.model(table, machine_of(table))

    def test_states_in_another_order(self):
        self.model(EVEN_ODD, reordered(TURNS, (1, 0)))
        for table in SMALL:
            machine = machine_of(table)
            for places in list(itertools.permutations(range(len(machine[1]))))[:30]:
                self.model(table, reordered(machine, places))

    def test_states_in_another_order_without_their_steps(self):
        self.no_model(EVEN_ODD, with_states(TURNS, TURNS[1][::-1]))

    def test_step_left_out(self):
        for table in SMALL:
            machine = machine_of(table)
            for at in range(len(machine[2])):
                self.no_machine(table, with_steps(machine, machine[2][:at] + machine[2][at + 1:]))
            self.no_machine(table, with_steps(machine, ()))

    def test_step_doubled(self):
        for table in SMALL:
            machine = machine_of(table)
            for at, step in enumerate(machine[2]):
                self.no_machine(table, with_steps(machine, machine[2][:at] + (step,) + machine[2][at:]))
                self.no_machine(table, with_steps(machine, machine[2] + (step,)))

    def test_steps_exchanged(self):
        for table in SMALL:
            machine = machine_of(table)
            for one, other in itertools.combinations(range(len(machine[2])), 2):
                steps = list(machine[2])
                steps[one], steps[other] = steps[other], steps[one]
                self.no_machine(table, with_steps(machine, steps))

    def test_step_that_leads_to_none(self):
        for state in (2, -1, 100, True, False, None, "0", "Even", (0,), [0], {}, ("Even",)):
            for at, step in enumerate(TURNS[2]):
                steps = list(TURNS[2])
                steps[at] = (*step[:2], state)
                self.no_machine(EVEN_ODD, with_steps(TURNS, steps))

    def test_parts_of_other_kinds(self):
        for parts in ((False,), (True,), [0], [], (0, 0), (), 0, None, (None,), ("0",), ((0,),), ([],), (2,), (-1,),
                      {0: 0}):
            for at in (1, 2):
                steps = list(TURNS[2])
                steps[at] = ("next", parts, steps[at][2])
                self.no_machine(EVEN_ODD, with_steps(TURNS, steps))
        for parts in ((0,), [], None, ((),), "", {}, False):
            self.no_machine(EVEN_ODD, with_steps(TURNS, (("zero", parts, 0),) + TURNS[2][1:]))

    def test_makers_of_other_words_and_kinds(self):
        for maker in ("next", "", "Even", None, True, 0, ("zero",), [], {}):
            self.no_machine(EVEN_ODD, with_steps(TURNS, ((maker, (), 0),) + TURNS[2][1:]))

    def test_makers_in_another_order(self):
        self.no_machine(EVEN_ODD, with_steps(TURNS, TURNS[2][1:] + TURNS[2][:1]))
        other = ("table", COUNT[::-1]) + EVEN_ODD[2:]
        self.model(other, with_steps(TURNS, TURNS[2][1:] + TURNS[2][:1]))

    def test_state_that_is_not_reached(self):
        states = (("Even",), ("Odd",), ())
        steps = TURNS[2] + (("next", (2,), 2),)
        self.no_machine(EVEN_ODD, ("machine", states, steps))
        self.no_machine(EVEN_ODD, ("machine", states, TURNS[2] + (("next", (2,), 0),)))
        self.no_machine(EVEN_ODD, ("machine", states, TURNS[2]))
        # Two states that are reached from one another alone.
        self.no_machine(EVEN_ODD, ("machine", states + (("Even", "Odd"),), TURNS[2] + (
            ("next", (2,), 3), ("next", (3,), 2))))
        # A pair needs both of its parts.
        table = ("table", PAIRS, ("A", "B"), ())
        pairs = tuple(("pair", parts, 0 if parts == (0, 0) else 1) for parts in itertools.product((0, 1), repeat=2))
        self.no_machine(table, ("machine", (("A",), ("B",)), (
            ("zero", (), 0), ("next", (0,), 0), ("next", (1,), 1)) + pairs))
        self.formed(table, ("machine", (("A",), ("B",)), (
            ("zero", (), 0), ("next", (0,), 1), ("next", (1,), 1)) + pairs))

    def test_states_that_are_alike(self):
        for table in SMALL:
            machine = machine_of(table)
            if len(machine[1]) > 1:
                self.no_machine(table, with_states(machine, machine[1][:1] * len(machine[1])))
        self.no_machine(EVEN_ODD, ("machine", (("Even",), ("Odd",), ("Even",)), (
            ("zero", (), 0), ("next", (0,), 1), ("next", (1,), 2), ("next", (2,), 1))))

    def test_families_of_a_state(self):
        both = ("machine", (("Even", "Odd"),), (("zero", (), 0), ("next", (0,), 0)))
        self.model(EVEN_ODD, both)
        for state in (("Odd", "Even"), ("Even", "Odd", "Even"), ("Even", "Even", "Odd"), ("Even", "Odd", "No"),
                      ("Even", "Odd", None), ["Even", "Odd"], "Even", None, True, 0, {}, {"Even": 1, "Odd": 1},
                      (("Even",), "Odd"), ("Even", ["Odd"]), ("Even", ("Odd",)), (0, 1), (True,)):
            self.no_machine(EVEN_ODD, with_states(both, (state,)))

    def test_no_states(self):
        for table in (EVEN_ODD, BARE, ALONE):
            self.no_machine(table, ("machine", (), ()))
        self.no_machine(EVEN_ODD, ("machine", (), (("zero", (), 0),)))

    def test_other_kinds_for_the_items(self):
        for value in (None, True, 0, "", "machine", [], {}, (), list(TURNS[1]), list(TURNS[2]), ((),), [()]):
            for at in range(3):
                if value != TURNS[at]:
                    self.no_machine(EVEN_ODD, TURNS[:at] + (value,) + TURNS[at + 1:])
        for step in (None, True, 0, "zero", [], {}, (), ["zero", (), 0], ("zero", ()), ("zero", (), 0, 0), ("zero",)):
            self.no_machine(EVEN_ODD, with_steps(TURNS, (step,) + TURNS[2][1:]))
        for value in (list(TURNS), TURNS[:2], TURNS + ((),), TURNS[1:], ("table",) + TURNS[1:], (TURNS,)):
            self.no_machine(EVEN_ODD, value)

    def test_any_value(self):
        for value in ANYTHING + (EVEN_ODD,):
            self.no_machine(EVEN_ODD, value)
            self.no_machine(EVEN_ODD, ("machine", value, TURNS[2]))
            self.no_machine(EVEN_ODD, ("machine", TURNS[1], value))
            if value != ():
                self.no_machine(EVEN_ODD, ("machine", (value, ("Odd",)), TURNS[2]))
        for kind in (lambda one: (one,), lambda one: [one], lambda one: {"Even": one},
                     lambda one: ("machine", one, ())):
            for value in (nested(58, None, kind), nested(50, TURNS, kind)):
                self.no_machine(EVEN_ODD, value)
                self.no_machine(EVEN_ODD, ("machine", value, value))
                self.no_machine(EVEN_ODD, ("machine", (("Even",), value), TURNS[2]))

    def test_machines_of_other_tables(self):
        self.no_machine(PLAIN, TURNS)
        self.no_machine(EVEN_ODD, machine_of(PLAIN))
        self.no_machine(("table", COUNT, ("Odd", "No"), ()), TURNS)


class Models(Case):

    def test_more_than_holds(self):
        # What is in a state beyond what holds breaks nothing.
        self.model(EVEN_ODD, ("machine", (("Even", "Odd"),), (("zero", (), 0), ("next", (0,), 0))))
        self.model(ALONE, ("machine", (("One", "Nought"),), (("zero", (), 0), ("next", (0,), 0))))
        self.model(BARE, ("machine", (("Nat", "Other"),), (
            ("zero", (), 0), ("next", (0,), 0), ("pair", (0, 0), 0))))

    def test_less_than_holds(self):
        self.no_model(EVEN_ODD, ("machine", ((),), (("zero", (), 0), ("next", (0,), 0))))
        self.no_model(EVEN_ODD, ("machine", (("Even",), ()), (("zero", (), 0), ("next", (0,), 1), ("next", (1,), 0))))
        self.no_model(EVEN_ODD, ("machine", (("Even",),), (("zero", (), 0), ("next", (0,), 0))))

    def test_step_to_another_state(self):
        self.no_model(EVEN_ODD, with_steps(TURNS, (("zero", (), 1), ("next", (0,), 1), ("next", (1,), 0))))
        self.no_model(EVEN_ODD, with_steps(TURNS, (("zero", (), 0), ("next", (0,), 1), ("next", (1,), 1))))

    def test_family_put_into_a_state_or_taken_out(self):
        for table in SMALL + (GREAT,):
            machine = machine_of(table)
            for at, family in itertools.product(range(len(machine[1])), table[2]):
                state = machine[1][at]
                if family in state:
                    other = tuple(one for one in state if one != family)
                else:
                    other = tuple(one for one in table[2] if one in state or one == family)
                changed = with_states(machine, machine[1][:at] + (other,) + machine[1][at + 1:])
                if other in machine[1]:
                    self.no_machine(table, changed)
                elif family in state:
                    self.no_model(table, changed)
                else:
                    self.formed(table, changed)
                    self.not_upheld(table, changed, rules_of(table))

    def test_made_index_that_is_a_name(self):
        states = (("Even", "Ahead"), ("Odd", "Any"))
        self.no_model(ANY, with_states(TURNS, states))
        self.model(ANY, with_states(TURNS, (("Even", "Any", "Ahead"), ("Odd", "Any"))))
        self.no_model(ANY, with_states(TURNS, (("Even", "Any"), ("Odd", "Any"))))

    def test_hidden_names(self):
        machine = machine_of(LATE)
        self.assertEqual(machine[1], (("Even", "Late"), ("Odd",), ("Even",)))
        self.no_model(LATE, TURNS)
        for table in (HIDDEN_TWO, HIDDEN_THREE, HIDDEN_FOUR):
            self.no_model(table, machine_of(table[:3] + (table[3][:-1],)))

    def test_as_the_words_say(self):
        rng = random.Random(406)
        told = []
        tables = list(SMALL) + [random_table(rng, 20, lambda one: len(machine_of(one)[1])) for _ in range(40)]
        for table in tables:
            machine = machine_of(table)
            for _ in range(25 if len(machine[1]) < 6 else 4):
                other = self.changed(rng, table, machine)
                if is_formed(table, other):
                    right = is_model_by_hand(table, other)
                    told.append(right)
                    (self.model if right else self.no_model)(table, other)
        self.assertGreater(told.count(True), 100)
        self.assertGreater(told.count(False), 100)

    def changed(self, rng, table, machine):
        """The machine with other families in some states and some other steps, so that it is seldom monotone."""
        states, steps = list(machine[1]), list(machine[2])
        for _ in range(rng.randint(0, 2)):
            at = rng.randrange(len(states))
            states[at] = tuple(one for one in table[2] if (one in states[at]) ^ (rng.random() < 0.3))
        for _ in range(rng.randint(0, 2)):
            at = rng.randrange(len(steps))
            steps[at] = (*steps[at][:2], rng.randrange(len(states)))
        return ("machine", tuple(states), tuple(steps))


class Upheld(Case):

    def test_rules_of_the_table(self):
        for table in SMALL + (GREAT,):
            self.upheld(table, machine_of(table), rules_of(table))

    def test_random_tables(self):
        rng = random.Random(409)
        for _ in range(30):
            table = random_table(rng, 20, lambda one: len(machine_of(one)[1]))
            self.upheld(table, machine_of(table), rules_of(table))

    def test_states_in_another_order(self):
        for table in (EVEN_ODD, DOUBLING, SIX, SWAPPED, LATE, PLAIN):
            machine = machine_of(table)
            for places in list(itertools.permutations(range(len(machine[1]))))[:10]:
                self.upheld(table, reordered(machine, places), rules_of(table))

    def test_rules_made_by_hand(self):
        self.upheld(EVEN_ODD, TURNS, [E, O, F])
        self.upheld(EVEN_ODD, TURNS, [F, O, E])
        self.upheld(EVEN_ODD, TURNS, [E, E, O, F, O])
        self.upheld(BARE, machine_of(BARE), [])
        # A set that asks for less upholds more.
        table = EVEN_ODD[:3] + (EVEN_ODD[3] + (("N", (("Odd", "n"),), "Odd", "n"),),)
        self.upheld(table, TURNS, [E, O, F])

    def test_rule_left_out(self):
        for rules in ([O, F], [E, F], [E, O], [E], []):
            self.not_upheld(EVEN_ODD, TURNS, rules)

    def test_right_rules_that_ask_for_too_much(self):
        self.not_upheld(EVEN_ODD, TURNS, [E, ("next", (("Even", "Odd"),), "Odd", "O", ()), F])
        self.upheld(EVEN_ODD, TURNS, [E, ("next", (("Even", "Odd"),), "Odd", "O", ()), O, F])

    def test_rule_that_is_not_right(self):
        wrong = ("next", (("Even",),), "Even", "F", ())
        self.not_upheld(EVEN_ODD, TURNS, [E, O, F, wrong])
        self.not_upheld(EVEN_ODD, TURNS, [E, O, F, E[:4]])
        self.not_upheld(EVEN_ODD, TURNS, [E, O, F, None])
        late = ("zero", (), "Late", "L", (ZERO,))
        self.upheld(LATE, machine_of(LATE), [E, O, F, late])
        self.not_upheld(LATE, machine_of(LATE), [E, O, late, F])
        self.not_upheld(LATE, machine_of(LATE), [E, O, F, late[:4] + ((chain(1),),)])
        self.not_upheld(LATE, machine_of(LATE), [E, O, F])

    def test_machines_made_by_hand(self):
        both = ("machine", (("Even", "Odd"),), (("zero", (), 0), ("next", (0,), 0)))
        self.model(EVEN_ODD, both)
        self.not_upheld(EVEN_ODD, both, [E, O, F])
        every = ("machine", (("One", "Nought"),), (("zero", (), 0), ("next", (0,), 0)))
        self.not_upheld(ALONE, every, rules_of(ALONE))
        # All rules are told, but the machine is no model.
        table = EVEN_ODD[:3] + (EVEN_ODD[3] + (("G", (("Even", "n"),), "Even", nx("n")),),)
        self.not_upheld(table, TURNS, [E, O, F])

    def test_any_two_values(self):
        for value in ANYTHING:
            self.not_upheld(EVEN_ODD, value, [E, O, F])
            self.not_upheld(EVEN_ODD, TURNS, value)
            self.not_upheld(EVEN_ODD, value, value)
            self.not_upheld(EVEN_ODD, TURNS, [E, O, F, value])
        self.not_upheld(EVEN_ODD, TURNS, (E, O, F))
        self.not_upheld(EVEN_ODD, [E, O, F], TURNS)

    def test_as_the_words_say(self):
        rng = random.Random(40)
        told = []
        tables = list(SMALL) + [random_table(rng, 20, lambda one: len(machine_of(one)[1])) for _ in range(15)]
        for table in tables:
            machine, rules = machine_of(table), rules_of(table)
            for at in range(len(rules)):
                maker, sets, family, word, hidden = rules[at]
                wider = tuple(table[2] for _ in sets)
                for other in ([], [rules[at]] * 2, [(maker, wider, family, word, hidden)],
                              [(maker, ((),) * len(sets), family, word, hidden)]):
                    changed = rules[:at] + other + rules[at + 1:]
                    right = are_right_by_hand(table, changed) and are_steps_told_by_hand(machine, changed)
                    told.append(right)
                    (self.upheld if right else self.not_upheld)(table, machine, changed)
        self.assertGreater(told.count(True), 50)
        self.assertGreater(told.count(False), 50)


if __name__ == "__main__":
    unittest.main()
