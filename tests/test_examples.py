"""The examples of README.md, and those of DOC.md for the parts 5 to 10."""

import builtins
import doctest
import pathlib
import unittest

from exactkinds.judging import judged, told, told_index
from exactkinds.languages import fits, parted, vectors
from exactkinds.machine import machine_of
from exactkinds.pieces import context, pieces
from tests.oracle import AT, VECTOR_TABLE
from tests.samples import EVEN_ODD

README = pathlib.Path(__file__).resolve().parent.parent / "README.md"


class Examples(unittest.TestCase):

    def test_readme(self):
        failed, tried = doctest.testfile(str(README), module_relative=False)
        # The value that was shown last stays among the builtins otherwise, for other tests to find.
        vars(builtins).pop("_", None)
        self.assertEqual(failed, 0)
        self.assertGreater(tried, 15)

    def test_languages(self):
        machine = machine_of(EVEN_ODD)
        self.assertEqual(vectors(machine, ["n"], [("Odd", ("next", "n"))]), [{"n": 0}])
        self.assertEqual(fits(machine, {"n": 1}, [("next", "a")], ["n"]),
                         ("always", [({"n.1": 0}, {"n": ("next", "n.1")}, {"a": "n.1"})]))
        self.assertEqual(fits(machine, {"n": 0}, [("next", "a")], ["n"]), ("not", {"n": ("zero",)}))
        self.assertEqual(parted(machine, {"a": 0, "b": 0}, "a", "b"),
                         {"a": ("next", ("next", ("zero",))), "b": ("zero",)})

    def test_pieces(self):
        at = AT[1][0]
        self.assertEqual(context(VECTOR_TABLE, at, (("Pop", "v0"), ("Cons", "v1", "v2"))), (
            (("s", "i0"), ("s", "i0")), (("Fin", "i0"), ("Bit", ("z",)), ("Vec", "i0"))))
        self.assertIsNone(context(VECTOR_TABLE, at, (("Pop", "v0"), ("Nil",))))
        self.assertEqual(pieces(VECTOR_TABLE, machine_of(VECTOR_TABLE), at), [
            (0, (("Top", "v0"), ("Cons", "v1", "v2"))), (1, (("Pop", "v0"), ("Cons", "v1", "v2")))])

    def test_judging(self):
        self.assertEqual(told_index(VECTOR_TABLE, AT, "at", 1, {"i": ("s", ("z",)), "x": ("z",), "r": ("z",)}),
                         ("demand", ()))
        self.assertIsNone(told(VECTOR_TABLE, AT, "at", (("Top", ("Zero",)), ("Cons", ("On",), ("Nil",)))))
        self.assertEqual(judged(VECTOR_TABLE, machine_of(VECTOR_TABLE), AT), ("let",))


if __name__ == "__main__":
    unittest.main()
