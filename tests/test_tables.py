"""Points 300 and 301: what a table is, and the parts of a table."""

import copy
import unittest

from exactkinds.errors import BadTable, KindsError
from exactkinds.tables import (
    check_table, constructor_of, constructors_of, is_table, parts_of, words_of)

MAKERS = (("zero", 0), ("next", 1), ("pair", 2))
ZERO = ("zero",)
EVEN_ODD = ("table", (("zero", 0), ("next", 1)), ("Even", "Odd"), (
    ("E", (), "Even", ("zero",)),
    ("O", (("Even", "n"),), "Odd", ("next", "n")),
    ("F", (("Odd", "n"),), "Even", ("next", "n"))))
BALANCED = ("table", (("zero", 0), ("next", 1)), ("Bal", "Lower"), (
    ("Leaf", (), "Bal", ("zero",)),
    ("Wrap", (("Bal", "n"),), "Lower", ("next", "n")),
    ("Left", (("Bal", "m"), ("Lower", "m")), "Bal", ("next", "m"))))


def table(makers=MAKERS, families=("A", "B"), constructors=()):
    return ("table", makers, families, constructors)


def with_one(*constructor):
    return table(constructors=(constructor,))


def with_part(term, family="A"):
    return with_one("C", ((family, term),), "A", ZERO)


def with_made(term, parts=(("A", "n"), ("B", "m"))):
    return with_one("C", parts, "A", term)


class Case(unittest.TestCase):

    def right(self, value):
        before = copy.deepcopy(value)
        self.assertIs(is_table(value), True, value)
        self.assertIsNone(check_table(value), value)
        self.assertEqual(value, before)

    def wrong(self, value):
        before = copy.deepcopy(value)
        self.assertIs(is_table(value), False, value)
        with self.assertRaises(BadTable):
            check_table(value)
        self.assertEqual(value, before)


class Form(Case):

    def test_right_tables(self):
        for value in (EVEN_ODD, BALANCED, table(), table((("z", 0),), ("A",))):
            self.right(value)

    def test_bad_table_is_an_error_of_the_program(self):
        with self.assertRaises(KindsError):
            check_table(None)

    def test_any_value(self):
        for value in (None, True, False, 0, 1, "", "table", (), [], {}, ("table",), [[]], ((),), {"a": []},
                      ("table", MAKERS, ("A",)), ("table", MAKERS, ("A",), (), ()),
                      list(EVEN_ODD), ("tabel",) + EVEN_ODD[1:], (None,) + EVEN_ODD[1:],
                      ([],) + EVEN_ODD[1:], EVEN_ODD[1:], (EVEN_ODD,)):
            self.wrong(value)

    def test_each_item_is_a_tuple(self):
        for at in (1, 2, 3):
            for bad in (None, True, 0, 1, "", "A", [], {}, {"A": 1}):
                self.wrong(EVEN_ODD[:at] + (bad,) + EVEN_ODD[at + 1:])
            self.wrong(EVEN_ODD[:at] + (list(EVEN_ODD[at]),) + EVEN_ODD[at + 1:])


class Makers(Case):

    def test_how_many(self):
        rows = tuple((f"m{k}", k) for k in range(3)) + (("m3", 0), ("m4", 2))
        for many in range(1, 6):
            self.right(table(rows[:many], ("A",)))
        self.wrong(table((), ("A",)))
        self.wrong(table(rows + (("m5", 0),), ("A",)))

    def test_one_has_no_parts(self):
        self.right(table((("a", 2), ("b", 1), ("z", 0)), ("A",)))
        self.wrong(table((("a", 2), ("b", 1)), ("A",)))
        self.wrong(table((("b", 1),), ("A",)))

    def test_the_number_of_parts(self):
        for parts in (0, 1, 2):
            self.right(table((("a", parts), ("z", 0)), ("A",)))
        for parts in (3, -1, 99, True, False, None, "0", "1", (), [], (0,), {}):
            self.wrong(table((("a", parts), ("z", 0)), ("A",)))

    def test_words(self):
        self.right(table((("a" * 12, 0),), ("A",)))
        for word in ("", "a" * 13, "1a", "a_b", "a b", "a%", "\u00e9", None, True, 0, (), [], {}, ("a",), ["a"]):
            self.wrong(table(((word, 1), ("z", 0)), ("A",)))

    def test_pairs(self):
        for maker in (("a",), ("a", 0, 0), (), ["a", 0], "a0", "a", None, True, 0, {}, {"a": 0}, (0, "a")):
            self.wrong(table((maker, ("z", 0)), ("A",)))


class Families(Case):

    def test_how_many(self):
        rows = ("A", "B", "C", "D")
        for many in range(1, 5):
            self.right(table(families=rows[:many]))
        self.wrong(table(families=()))
        self.wrong(table(families=rows + ("E",)))

    def test_words(self):
        self.right(table(families=("A" * 12,)))
        for word in ("", "A" * 13, "1A", "A_", " A", None, True, 0, (), [], {}, ("A",), ["A"]):
            self.wrong(table(families=("B", word)))


class Constructors(Case):

    def test_how_many(self):
        rows = tuple((f"C{k}", (), "A", ZERO) for k in range(17))
        for many in (0, 1, 15, 16):
            self.right(table(constructors=rows[:many]))
        self.wrong(table(constructors=rows))

    def test_four_items(self):
        self.right(with_one("C", (), "A", ZERO))
        for bad in (("C", (), "A"), ("C", (), "A", ZERO, ()), (), ["C", (), "A", ZERO], "C", None, True, 0, {}):
            self.wrong(table(constructors=(bad,)))
            self.wrong(table(constructors=(("D", (), "A", ZERO), bad)))

    def test_words(self):
        self.right(with_one("C" * 12, (), "A", ZERO))
        for word in ("", "C" * 13, "1C", "C-", None, True, 0, (), [], {}, ("C",), ["C"]):
            self.wrong(with_one(word, (), "A", ZERO))

    def test_how_many_parts(self):
        for many in range(4):
            self.right(with_one("C", (("A", "n"),) * many, "A", ZERO))
        self.wrong(with_one("C", (("A", "n"),) * 4, "A", ZERO))

    def test_parts_are_a_tuple_of_pairs(self):
        self.right(with_one("C", (("A", "n"),), "B", "n"))
        for bad in ([("A", "n")], [], None, True, 0, "", "A", {}, {"A": "n"}):
            self.wrong(with_one("C", bad, "A", ZERO))
        for bad in (["A", "n"], ("A",), ("A", "n", "n"), (), "An", "A", None, True, 0, {}, [], ("n", "A")):
            self.wrong(with_one("C", (bad,), "A", ZERO))
            self.wrong(with_one("C", (("A", "n"), bad), "A", ZERO))

    def test_the_families_are_those_of_the_table(self):
        self.right(with_part("n", "B"))
        self.right(with_one("C", (), "B", ZERO))
        for family in ("X", "a", "", "zero", "C", None, True, 0, (), [], {}, ("A",), ["A"], {"A": 1}):
            self.wrong(with_part("n", family))
            self.wrong(with_one("C", (), family, ZERO))

    def test_terms_of_parts(self):
        for term in ("n", "A", "C", ZERO, ("next", "n"), ("pair", "n", "n"), ("pair", ZERO, ("next", "x"))):
            self.right(with_part(term))
        for term in ("zero", "next", ("next",), ("zero", "n"), ("next", "n", "n"), ("pair", "n"), ("other",),
                     ("next", "zero"), ("next", ("other", "n")), ["zero"], ["next", "n"], ("next", ["zero"]),
                     (), ("next", ()), None, True, False, 0, {}, [], ("next", None), ("next", 0), (0,),
                     ([],), ({},), ("A", "n"), (("next", "n"),)):
            self.wrong(with_part(term))

    def test_names_are_words(self):
        for name in ("n", "N9", "a" * 12):
            self.right(with_part(name))
            self.right(with_part(("pair", "x", ("next", name))))
        for name in ("", "a" * 13, "1", "n.1", "n_", " n", "\u00e9"):
            self.wrong(with_part(name))
            self.wrong(with_part(("pair", "x", ("next", name))))

    def test_how_deep_terms_are(self):
        four = ("next", ("next", ("next", "n")))
        self.right(with_part(four))
        self.right(with_part(("pair", "n", ("pair", ZERO, ("next", ZERO)))))
        self.wrong(with_part(("next", four)))
        self.wrong(with_part(("pair", "n", ("pair", "n", ("pair", "n", ("next", ZERO))))))
        self.wrong(with_part(("pair", four, "n")))
        deep = "n"
        for _ in range(55):
            deep = ("next", deep)
        self.wrong(with_part(deep))

    def test_deep_terms_with_very_many_places(self):
        deep = "n"
        for _ in range(55):
            deep = ("pair", deep, deep)
        self.assertIs(is_table(with_part(deep)), False)
        self.assertIs(is_table(with_one("C", (("A", "n"),), "A", deep)), False)

    def test_how_many_names(self):
        self.right(with_one("C", (("A", ("pair", "a", "b")), ("B", ("pair", "c", "d"))), "A", ("pair", "d", "a")))
        self.right(with_one("C", (("A", ("pair", "a", "b")), ("B", ("pair", "c", "d")), ("A", "a")), "A", "b"))
        self.wrong(with_one("C", (("A", ("pair", "a", "b")), ("B", ("pair", "c", "d")), ("A", "e")), "A", "b"))
        self.wrong(with_one("C", (("A", ("pair", ("pair", "a", "b"), ("pair", "c", ("pair", "d", "e")))),), "A", ZERO))


class Made(Case):
    """Point 301: the index that a constructor makes."""

    def test_flat_indices(self):
        for term in ("n", "m", ZERO, ("next", "n"), ("next", "m"), ("pair", "n", "m"), ("pair", "m", "n")):
            self.right(with_made(term))

    def test_flat_indices_of_long_names(self):
        parts = (("A", "nnn"), ("B", "mn"))
        for term in ("nnn", "mn", ("next", "nnn"), ("pair", "mn", "nnn"), ("pair", "nnn", "mn")):
            self.right(with_made(term, parts))
        self.wrong(with_made("nn", parts))
        self.wrong(with_made(("pair", "nnn", "nnn"), parts))

    def test_indices_that_are_not_flat(self):
        for term in (("next", ZERO), ("next", ("next", "n")), ("pair", "n", ZERO), ("pair", ZERO, "n"),
                     ("pair", "n", ("next", "m")), ("pair", ("next", "n"), "m"), ("pair", ZERO, ZERO)):
            self.wrong(with_made(term))

    def test_names_that_do_not_differ(self):
        self.wrong(with_made(("pair", "n", "n")))
        self.wrong(with_made(("pair", "m", "m")))

    def test_each_name_stands_in_a_part(self):
        for term in ("x", ("next", "x"), ("pair", "n", "x"), ("pair", "x", "n")):
            self.wrong(with_made(term))
        for term in ("n", ("next", "n")):
            self.wrong(with_made(term, ()))
            self.wrong(with_made(term, (("A", "m"),)))
            self.wrong(with_made(term, (("A", ZERO),)))
        self.right(with_made(("pair", "n", "m"), (("A", ("pair", "n", ("next", "m"))),)))
        self.right(with_made("m", (("A", "n"), ("A", ZERO), ("B", ("next", "m")))))
        self.right(with_made(ZERO, ()))

    def test_made_indices_are_terms(self):
        for term in ("zero", ("next",), ("zero", "n"), ("pair", "n"), ("other",), ("other", "n"), ["zero"],
                     ["next", "n"], ("next", ["n"]), (), None, True, 0, {}, ("next", 0), ("next", None)):
            self.wrong(with_made(term))


class Words(Case):

    def test_all_words_differ(self):
        rows = (("C", (), "A", ("y",)), ("D", (("A", "n"),), "B", "n"))
        self.right(table((("y", 0), ("z", 0)), ("A", "B"), rows))
        self.wrong(table((("y", 0), ("y", 0)), ("A", "B"), rows))
        self.wrong(table((("y", 0), ("y", 1)), ("A", "B"), rows))
        self.wrong(table((("y", 0), ("z", 0)), ("A", "A"), rows[:1]))
        self.wrong(table((("y", 0), ("z", 0)), ("A", "B", "B"), rows))
        self.wrong(table((("y", 0), ("z", 0)), ("A", "B"), rows + (("C", (), "B", ("z",)),)))
        self.wrong(table((("y", 0), ("z", 0)), ("A", "B", "y"), rows))
        self.wrong(table((("y", 0), ("z", 0)), ("A", "B"), rows + (("z", (), "B", ("z",)),)))
        self.wrong(table((("y", 0), ("z", 0)), ("A", "B"), rows + (("B", (), "B", ("z",)),)))
        self.wrong(table((("y", 0), ("B", 0)), ("A", "B"), rows))

    def test_names_may_be_words_of_families_and_constructors(self):
        self.right(with_one("C", (("A", "B"), ("A", "C")), "A", ("pair", "C", "B")))


class PartsOfATable(Case):

    def test_parts_of(self):
        value = table((("b", 2), ("z", 0), ("a", 1)))
        self.assertEqual([parts_of(value, word) for word in ("a", "b", "z")], [1, 2, 0])

    def test_constructor_of(self):
        for row in BALANCED[3]:
            self.assertEqual(constructor_of(BALANCED, row[0]), row)
        for word in ("E", "Bal", "zero", "", "left"):
            self.assertIsNone(constructor_of(BALANCED, word))
        self.assertIsNone(constructor_of(table(), "C"))

    def test_constructors_of(self):
        e, o, f = EVEN_ODD[3]
        self.assertEqual(constructors_of(EVEN_ODD, "Even"), (e, f))
        self.assertEqual(constructors_of(EVEN_ODD, "Odd"), (o,))
        self.assertEqual(constructors_of(table(), "A"), ())

    def test_words_of(self):
        self.assertEqual(words_of(EVEN_ODD), ["zero", "next", "Even", "Odd", "E", "O", "F"])
        self.assertEqual(words_of(table()), ["zero", "next", "pair", "A", "B"])

    def test_words_are_a_new_list_each_time(self):
        before = copy.deepcopy(EVEN_ODD)
        words_of(EVEN_ODD).append("more")
        self.assertEqual(words_of(EVEN_ODD), ["zero", "next", "Even", "Odd", "E", "O", "F"])
        self.assertEqual(EVEN_ODD, before)


if __name__ == "__main__":
    unittest.main()
