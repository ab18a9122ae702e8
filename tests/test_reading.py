"""Points 201 to 205: texts and what they tell."""

import unittest

from exactkinds.errors import BadText
from exactkinds.reading import read

EXAMPLE = """\
maker zero 0
maker next 1
family Nat
con Z : -> Nat(zero)
con S : Nat(n) -> Nat(next(n))
fun same falls 0 : Nat(n), Nat(n) -> Nat(n)
same(Z, m) = m
same(S(k), S(m)) = S(same(k, m))
"""
TABLE = (
    "table",
    (("zero", 0), ("next", 1)),
    ("Nat",),
    (("Z", (), "Nat", ("zero",)), ("S", (("Nat", "n"),), "Nat", ("next", "n"))),
)
CLAUSES = (
    ((("Z",), "m"), "m"),
    ((("S", "k"), ("S", "m")), ("S", ("same", "k", "m"))),
)
PROGRAM = ("program", (("same", (("Nat", "n"), ("Nat", "n")), "Nat", "n", 0, CLAUSES),))
FUN = "fun f falls 0 : A(n) -> A(n)\n"


class Case(unittest.TestCase):

    def bad(self, text, line):
        with self.assertRaises(BadText) as caught:
            read(text)
        self.assertEqual(caught.exception.line, line, text)

    def table(self, text):
        return read(text)[0]

    def makers(self, text):
        return read(text)[0][1]

    def clause(self, text):
        """The one clause that the text has."""
        found = [clause for function in read(text)[1][1] for clause in function[5]]
        self.assertEqual(len(found), 1)
        return found[0]


class Lines(Case):
    """Points 202 and 204: each kind of line."""

    def test_the_example(self):
        self.assertEqual(read(EXAMPLE), (TABLE, PROGRAM))

    def test_the_pair_is_made_of_tuples(self):
        def look(value):
            self.assertIn(value.__class__, (tuple, str, int))
            if value.__class__ is tuple:
                for item in value:
                    look(item)
        look(read(EXAMPLE))

    def test_the_empty_text(self):
        self.assertEqual(read(""), (("table", (), (), ()), ("program", ())))

    def test_makers(self):
        self.assertEqual(self.makers("maker a 0\nmaker b 2\n"), (("a", 0), ("b", 2)))
        self.assertEqual(self.makers("maker a 7\nmaker a 0\n"), (("a", 7), ("a", 0)))
        for line in ("maker", "maker a", "maker 0", "maker 0 a", "maker a 0 0", "maker a b",
                     "maker a 0 b", "maker a -> 0", "maker a : 0", "maker a, 0", "Maker a 0", "makers a 0"):
            self.bad(line + "\n", 1)

    def test_families(self):
        self.assertEqual(self.table("family B\nfamily A\n")[2], ("B", "A"))
        self.assertEqual(self.table("family A\nfamily A\n")[2], ("A", "A"))
        for line in ("family", "family 0", "family A B", "family A, B", "family A 0", "family A :",
                     "Family A", "family A(n)", "family -> A"):
            self.bad(line + "\n", 1)

    def test_constructors(self):
        rows = self.table("con A : -> B(n)\ncon C : D(x), E(f(x, y)), D(n) -> B(f(x))\n")[3]
        self.assertEqual(rows, (
            ("A", (), "B", "n"),
            ("C", (("D", "x"), ("E", ("f", "x", "y")), ("D", "n")), "B", ("f", "x"))))
        for line in ("con", "con A", "con A :", "con A -> B(n)", "con : -> B(n)", "con A : B(n)",
                     "con A : ->", "con A : -> B", "con A : -> B()", "con A : -> B(n",
                     "con A : -> B(n))", "con A : -> B(n, m)", "con A : -> B(n), B(n)",
                     "con A : -> (n)", "con A : , -> B(n)", "con A : B(n), -> B(n)",
                     "con A : , B(n) -> B(n)", "con A : B(n) B(n) -> B(n)", "con A : B -> B(n)",
                     "con A : B(n) -> -> B(n)", "con A = -> B(n)", "con A : = B(n)",
                     "con A : -> B(n) A", "con 0 : -> B(n)", "con A : -> 0(n)", "con A : -> B(0)",
                     "con A falls 0 : -> B(n)", "con A : B(f()) -> B(n)", "con A : B(f(,n)) -> B(n)",
                     "con A : B(f(n,)) -> B(n)", "con A : B(f(n m)) -> B(n)", "con A : B((n)) -> B(n)",
                     "con A : B(n(m)(k)) -> B(n)", "con A B : -> B(n)", "Con A : -> B(n)"):
            self.bad(line + "\n", 1)

    def test_functions(self):
        functions = read("fun f falls 3 : A(x), B(g(x)) -> C(x)\nfun f falls 0 : A(y) -> A(y)\n")[1][1]
        self.assertEqual(functions, (
            ("f", (("A", "x"), ("B", ("g", "x"))), "C", "x", 3, ()),
            ("f", (("A", "y"),), "A", "y", 0, ())))
        for line in ("fun", "fun f", "fun f falls", "fun f falls 0", "fun f falls 0 :",
                     "fun f falls 0 : A(n)", "fun f falls 0 : A(n) ->", "fun f falls 0 : -> A(n)",
                     "fun f : A(n) -> A(n)", "fun f falls : A(n) -> A(n)", "fun falls 0 : A(n) -> A(n)",
                     "fun f Falls 0 : A(n) -> A(n)", "fun f falls a : A(n) -> A(n)",
                     "fun f 0 : A(n) -> A(n)", "fun f falls 0 A(n) -> A(n)",
                     "fun f falls 0 : A(n) A(n) -> A(n)", "fun f falls 0 : A(n), -> A(n)",
                     "fun f falls 0 : A(n) -> A(n), A(n)", "fun f falls 0 : A(n) -> A(n) = n",
                     "fun f falls 0 : A -> A(n)", "fun f falls 0 : A(n) -> A",
                     "fun f falls 0 : A(n, m) -> A(n)", "fun 0 falls 0 : A(n) -> A(n)",
                     "fun f falls 0 = A(n) -> A(n)", "Fun f falls 0 : A(n) -> A(n)"):
            self.bad(line + "\n", 1)

    def test_clauses(self):
        self.assertEqual(self.clause(FUN + "f(x) = x\n"), (("x",), "x"))
        told = (("x", ("C", "y", ("D", "z"))), ("g", ("h", "x"), "z"))
        self.assertEqual(self.clause(FUN + "f(x, C(y, D(z))) = g(h(x), z)\n"), told)
        for line in ("f", "f =", "f = x", "f() = x", "f(x)", "f(x) =", "f(x) x", "f(x) -> x",
                     "f(x) : x", "f(x = x", "f x) = x", "f(x)) = x", "f(x) = x)", "f(x) = (x)",
                     "f(x) = g()", "f(x) = g(", "f(x) = g(x", "f(x) = g(x,)", "f(x) = g(,x)",
                     "f(x) = g(x y)", "f(x) = x y", "f(x) = x, y", "f(x,) = x", "f(,x) = x",
                     "f(x y) = x", "f(0) = x", "f(x) = 0", "f((x)) = x", "f(x)(y) = x",
                     "f(x) = g(x)(y)", "f(x) = x = x", "f(x), f(y) = x", "0(x) = x", "(f)(x) = x"):
            self.bad(FUN + line + "\n", 2)

    def test_each_clause_belongs_to_the_last_function(self):
        text = FUN + "f(x) = a\nf(y) = b\nfun g falls 0 : A(n) -> A(n)\ng(x) = c\nfamily A\ng(y) = d\n"
        functions = read(text)[1][1]
        self.assertEqual([row[0] for row in functions], ["f", "g"])
        self.assertEqual(functions[0][5], ((("x",), "a"), (("y",), "b")))
        self.assertEqual(functions[1][5], ((("x",), "c"), (("y",), "d")))

    def test_two_functions_with_one_word(self):
        functions = read(FUN + "f(x) = a\n" + FUN + "f(x) = b\n")[1][1]
        self.assertEqual([row[5] for row in functions], [((("x",), "a"),), ((("x",), "b"),)])

    def test_a_clause_without_its_function(self):
        self.bad("f(x) = x\n", 1)
        self.bad("f(x) = x\n" + FUN, 1)
        self.bad(FUN + "g(x) = x\n", 2)
        self.bad(FUN + "fun g falls 0 : A(n) -> A(n)\nf(x) = x\n", 3)
        self.bad("maker f 0\nfamily f\ncon f : -> A(n)\nf(x) = x\n", 4)

    def test_lines_of_all_kinds_in_any_order(self):
        text = FUN + "con C : -> A(z)\nf(C) = C\nfamily A\nmaker z 0\ncon D : A(z) -> B(z)\nfamily B\nmaker y 1\n"
        self.assertEqual(read(text), (
            ("table", (("z", 0), ("y", 1)), ("A", "B"),
             (("C", (), "A", ("z",)), ("D", (("A", ("z",)),), "B", ("z",)))),
            ("program", (("f", (("A", "n"),), "A", "n", 0, (((("C",),), ("C",)),)),))))

    def test_reading_does_not_ask_whether_anything_is_right(self):
        text = "maker A 9\ncon A : A(A(A, b)) -> Z(A(c))\nfun A falls 99 : Q(A) -> R(zz)\nA(x, x) = A(y)\n"
        self.assertEqual(read(text), (
            ("table", (("A", 9),), (), (("A", (("A", ("A", ("A",), "b")),), "Z", ("A", "c")),)),
            ("program", (("A", (("Q", ("A",)),), "R", "zz", 99, ((("x", "x"), ("A", "y")),)),))))


class WordsOfLines(Case):
    """Point 202: the words that begin lines are words like others elsewhere."""

    WORDS = ("maker", "family", "con", "fun", "falls")

    def test_as_makers_families_and_constructors(self):
        for word in self.WORDS:
            text = f"maker {word} 1\nfamily {word}\ncon {word} : {word}({word}(n)) -> {word}({word})\n"
            self.assertEqual(self.table(text), (
                "table", ((word, 1),), (word,),
                ((word, ((word, (word, "n")),), word, (word,)),)), text)

    def test_as_functions_and_names(self):
        for word in self.WORDS:
            text = f"fun {word} falls 1 : {word}({word}) -> {word}({word})\n{word}({word}) = {word}({word})\n"
            told = ((word, ((word, word),), word, word, 1, (((word,), (word, word)),)),)
            self.assertEqual(read(text)[1], ("program", told), text)

    def test_a_line_whose_second_token_is_a_parenthesis_is_a_clause(self):
        for word in self.WORDS:
            self.bad(f"{word}(x) = x\n", 1)
            self.bad(FUN + f"{word}(x) = x\n", 2)
            self.bad(f"{word}(x)\n", 1)
        self.assertEqual(self.clause("fun maker falls 0 : A(n) -> A(n)\nmaker(x) = x\n"), (("x",), "x"))
        self.assertEqual(self.clause("fun fun falls 0 : A(n) -> A(n)\nfun (x) = x\n"), (("x",), "x"))


class Tokens(Case):
    """Point 201: spaces, comments, words, numbers and signs."""

    def test_spaces(self):
        self.assertEqual(self.makers("  maker   a    0  \n"), (("a", 0),))
        loose = ("  con  S  :  Nat ( n )  ,  Nat ( m )  ->  Nat ( next ( n , m ) )  \n"
                 "fun f falls 0 : A ( n ) -> A ( n ) \n f ( x , y ) = g ( x , y ) \n")
        tight = "con S:Nat(n),Nat(m)->Nat(next(n,m))\nfun f falls 0:A(n)->A(n)\nf(x,y)=g(x,y)\n"
        self.assertEqual(read(loose), read(tight))
        self.assertEqual(self.table(tight)[3],
                         (("S", (("Nat", "n"), ("Nat", "m")), "Nat", ("next", "n", "m")),))

    def test_spaces_that_must_stand(self):
        for line in ("makera 0", "maker a0", "makera0", "familyA", "conA : -> B(n)",
                     "fun ffalls 0 : A(n) -> A(n)", "fun f falls0 : A(n) -> A(n)",
                     "funf falls 0 : A(n) -> A(n)", "maker a 0b", "maker 0a 0"):
            self.bad(line + "\n", 1)

    def test_spaces_inside_tokens(self):
        for line in ("ma ker a 0", "maker a 1 0", "con A : - > B(n)"):
            self.bad(line + "\n", 1)

    def test_empty_lines_and_comments(self):
        for text in ("\n", "\n\n\n", "   \n", "#\n", "  # maker a 0\n", "# )(*&^!~`'\"\\{}[]|;<>?/.+-_@$\n",
                     "##\n", "#" + "(" * 50 + "\n"):
            self.assertEqual(read(text), read(""), text)
        self.assertEqual(self.makers("maker a 0# maker b 0\n"), (("a", 0),))
        self.assertEqual(self.makers("maker a 0 # b ((\n\nmaker c 1#d\n"), (("a", 0), ("c", 1)))
        self.bad("maker # a 0\n", 1)
        self.bad("maker a #0\n", 1)

    def test_numbers(self):
        for number in ("0", "1", "2", "7", "9", "10", "42", "90", "99"):
            self.assertEqual(self.makers(f"maker a {number}\n"), (("a", int(number)),))
            text = f"fun f falls {number}: A(n) -> A(n)\n"
            self.assertEqual(read(text)[1][1][0][4], int(number))
        for number in ("00", "01", "07", "010", "100", "999", "1000", "1a", "0x1", "-1", "+1", "1.0", "1_0"):
            self.bad(f"maker a {number}\n", 1)
            self.bad(f"fun f falls {number} : A(n) -> A(n)\n", 1)

    def test_lengths_of_words(self):
        long = "abcdefghijkl"
        self.assertEqual(self.makers(f"maker {long} 0\n"), ((long, 0),))
        self.assertEqual(self.clause(FUN + f"f({long}) = {long}\n"), ((long,), long))
        for line in (f"maker {long}m 0", f"family {long}m", f"con {long}m : -> A(n)",
                     f"con C : -> A({long}m)", f"con C : -> {long}m(n)"):
            self.bad(line + "\n", 1)
        self.bad(FUN + f"f({long}m) = x\n", 2)
        self.bad(FUN + f"f(x) = {long}m\n", 2)

    def test_signs_that_are_no_tokens(self):
        for sign in "!\"$&'*+-./;<>?@[\\]^_`{|}~":
            for line in (f"maker a 0 {sign}", f"maker a{sign} 0", f"{sign}", f"maker {sign}a 0"):
                self.bad(line + "\n", 1)
            self.assertEqual(self.makers(f"maker a 0 # {sign}\n"), (("a", 0),))


class Declared(Case):
    """Point 203: words without parentheses."""

    def test_in_terms(self):
        row = self.table("maker z 0\ncon C : A(z), A(n), A(f(z, n)) -> A(z)\n")[3][0]
        self.assertEqual(row[1], (("A", ("z",)), ("A", "n"), ("A", ("f", ("z",), "n"))))
        self.assertEqual(row[3], ("z",))

    def test_in_params_and_results(self):
        row = read("maker z 0\nfun f falls 0 : A(z), A(n), A(g(z)) -> A(z)\n")[1][1][0]
        self.assertEqual(row[1], (("A", ("z",)), ("A", "n"), ("A", ("g", ("z",)))))
        self.assertEqual(row[3], ("z",))

    def test_a_word_that_is_declared_later(self):
        self.assertEqual(self.table("con C : A(z) -> A(z)\nmaker z 0\n")[3],
                         (("C", (("A", ("z",)),), "A", ("z",)),))
        self.assertEqual(read("fun f falls 0 : A(z) -> A(z)\nmaker z 0\n")[1][1][0][1], (("A", ("z",)),))
        self.assertEqual(self.clause(FUN + "f(C) = C\ncon C : -> A(z)\n"), ((("C",),), ("C",)))
        self.assertEqual(self.clause(FUN + "f(D(C)) = D(C)\ncon C : -> A(z)\n"),
                         ((("D", ("C",)),), ("D", ("C",))))

    def test_the_number_of_parts_is_not_asked(self):
        self.assertEqual(self.table("maker z 2\ncon C : -> A(z)\n")[3], (("C", (), "A", ("z",)),))
        self.assertEqual(self.clause("con C : A(n) -> A(n)\n" + FUN + "f(C) = C\n"), ((("C",),), ("C",)))

    def test_makers_count_in_terms_and_constructors_elsewhere(self):
        text = "maker z 0\ncon C : -> A(C)\n" + FUN + "f(z) = z\n"
        self.assertEqual(self.table(text)[3], (("C", (), "A", "C"),))
        self.assertEqual(self.clause(text), (("z",), "z"))
        text = "family z\ncon C : A(z) -> A(z)\n" + FUN + "f(f) = f\n"
        self.assertEqual(self.table(text)[3], (("C", (("A", "z"),), "A", "z"),))
        self.assertEqual(self.clause(text), (("f",), "f"))

    def test_words_with_parentheses_need_no_line(self):
        self.assertEqual(self.table("con C : -> A(q(n))\n")[3], (("C", (), "A", ("q", "n")),))
        self.assertEqual(self.clause(FUN + "f(q(x)) = r(x)\n"), ((("q", "x"),), ("r", "x")))


class Parentheses(Case):
    """Point 202: at most 40 are open at once."""

    def nested(self, many):
        return "g(" * many + "x" + ")" * many

    def test_in_bodies(self):
        tree = "x"
        for _ in range(40):
            tree = ("g", tree)
        self.assertEqual(self.clause(FUN + f"f(x) = {self.nested(40)}\n"), (("x",), tree))
        self.bad(FUN + f"f(x) = {self.nested(41)}\n", 2)

    def test_in_patterns(self):
        self.clause(FUN + f"f({self.nested(39)}) = x\n")
        self.bad(FUN + f"f({self.nested(40)}) = x\n", 2)

    def test_in_types(self):
        self.table(f"con C : A({self.nested(39)}) -> A({self.nested(39)})\n")
        self.bad(f"con C : A({self.nested(40)}) -> A(n)\n", 1)
        self.bad(f"con C : -> A({self.nested(40)})\n", 1)
        read(f"fun f falls 0 : A({self.nested(39)}) -> A(n)\n")
        self.bad(f"fun f falls 0 : A({self.nested(40)}) -> A(n)\n", 1)
        self.bad(f"fun f falls 0 : A(n) -> A({self.nested(40)})\n", 1)

    def test_only_those_that_are_open_at_once_count(self):
        row = ", ".join([self.nested(3)] * 30)
        self.assertEqual(len(self.clause(FUN + f"f(x) = h({row})\n")[1]), 31)

    def test_very_many(self):
        self.bad(FUN + f"f(x) = {self.nested(1900)}\n", 2)
        self.bad("(" * 5999 + "\n", 1)
        self.bad("f(" * 2999 + "\n", 1)
        self.bad(")" * 5999 + "\n", 1)


class Bad(Case):
    """Point 205: what BadText tells."""

    def test_no_string(self):
        for value in (None, True, False, 0, 1, (), [], {}, ("maker a 0\n",), ["maker a 0\n"], {"a": "b"}):
            self.bad(value, 0)

    def test_signs_that_are_not_allowed(self):
        others = [chr(code) for code in range(32) if code != 10]
        others += ["%", "\x7f", "\x80", "\u00a0", "\u00e9", "\u2028", "\U0001f600", "\ud800"]
        for sign in others:
            for text in (sign, f"maker a 0\n{sign}\n", f"# {sign}\n", f"maker a{sign} 0\n",
                         f"wrong line\n{sign}\n", f"maker a 0{sign}"):
                self.bad(text, 0)

    def test_all_other_signs_are_allowed(self):
        allowed = "".join(chr(code) for code in range(32, 127) if code != 37)
        self.assertEqual(read(f"# {allowed}\n"), read(""))

    def test_the_length(self):
        start = "maker a 0\n#"
        most = start + "x" * (6000 - len(start) - 1) + "\n"
        self.assertEqual(len(most), 6000)
        self.assertEqual(self.makers(most), (("a", 0),))
        self.bad(most + "\n", 0)
        self.bad("x" * 6001, 0)
        self.bad("\n" * 6001, 0)
        self.assertEqual(read("\n" * 6000), read(""))
        self.bad("x" * 6000, 1)

    def test_the_first_bad_line(self):
        self.bad("maker a 0\nwrong\nmaker b 0\nwrong\n", 2)
        self.bad("\n# x\n\nwrong\n", 4)
        self.bad("maker a 0\ng(x) = x\nwrong\n", 2)
        self.bad("maker a 0\nwrong\ng(x) = x\n", 2)
        self.bad("\n" * 99 + "0\n", 100)
        self.bad(FUN + f"f(x) = {'g(' * 41}x{')' * 41}\nwrong\n", 2)
        self.bad("wrong\n" + FUN + f"f(x) = {'g(' * 41}x{')' * 41}\n", 1)
        self.bad("wrong\n!\n", 1)
        self.bad("!\nwrong\n", 1)

    def test_a_last_line_without_its_newline(self):
        self.bad("maker a 0", 1)
        self.bad("maker a 0\nmaker b 0", 2)
        self.bad("maker a 0\n ", 2)
        self.bad("maker a 0\n#", 2)
        self.bad(" ", 1)
        self.bad("\n\n\nx", 4)
        self.bad("maker a 0\nwrong\nmaker b 0", 2)
        self.bad("wrong\nwrong", 1)

    def test_nothing_behind_the_last_newline_is_no_line(self):
        self.assertEqual(self.makers("maker a 0\n"), (("a", 0),))
        self.assertEqual(self.makers("maker a 0\n\n"), (("a", 0),))


if __name__ == "__main__":
    unittest.main()
