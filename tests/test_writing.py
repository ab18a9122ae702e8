"""Point 206: the text of a table and a program, and that reading gives back the pair."""

import copy
import random
import unittest

from exactkinds.reading import read
from exactkinds.tables import is_table
from exactkinds.writing import write

EXAMPLE = """\
maker zero 0
maker next 1
family Nat
con Z : -> Nat(zero)
con S : Nat(n) -> Nat(next(n))
fun same falls 0 : Nat(n), Nat(n) -> Nat(n)
same(Z, m) = m
same(S(k), S(m)) = S(same(k, m))
"""
VECTORS = """\
maker z 0
maker s 1
family Bit
family Nat
family Fin
family Vec
con Off : -> Bit(z)
con On : -> Bit(z)
con Zero : -> Nat(z)
con Succ : Nat(n) -> Nat(s(n))
con Top : Nat(n) -> Fin(s(n))
con Pop : Fin(n) -> Fin(s(n))
con Nil : -> Vec(z)
con Cons : Bit(z), Vec(n) -> Vec(s(n))
fun at falls 0 : Fin(n), Vec(n) -> Bit(z)
at(Top(k), Cons(x, r)) = x
at(Pop(i), Cons(x, r)) = at(i, r)
"""
EMPTY = (("table", (), (), ()), ("program", ()))


class Writing(unittest.TestCase):

    def test_the_examples(self):
        for text in (EXAMPLE, VECTORS):
            self.assertEqual(write(*read(text)), text)

    def test_nothing(self):
        self.assertEqual(write(*EMPTY), "")

    def test_the_order_and_the_spaces(self):
        text = ("fun  f  falls  1:A(n),B(g(n,m))->A(n)\nfamily B\nf(x,C(y,D))=g(x,D,h(y))\nmaker g 2\n"
                "con D:->A(z)\nfun e falls 0:B(z)->B(z)\nfamily A\nmaker z 0\ncon C:A(n),A(m)->B(g(n,m))\n"
                "e(x)=x\ne(D)=D\n")
        told = ("maker g 2\nmaker z 0\nfamily B\nfamily A\ncon D : -> A(z)\ncon C : A(n), A(m) -> B(g(n, m))\n"
                "fun f falls 1 : A(n), B(g(n, m)) -> A(n)\nf(x, C(y, D)) = g(x, D, h(y))\n"
                "fun e falls 0 : B(z) -> B(z)\ne(x) = x\ne(D) = D\n")
        self.assertEqual(write(*read(text)), told)

    def test_what_is_not_right(self):
        table = ("table", (("next", 9), ("next", 99)), ("next", "Nat", "Nat"),
                 (("next", (("Who", ("next",)), ("Who", ("next", "a", ("next",), "b"))), "Nat", "c"),))
        clauses = ((("x", "x", ("next", ("next",))), ("gone", "y", ("next",))), (("x",), ("next",)))
        program = ("program", (("f", (("Q", "r"),), "R", ("next", ("next", "n")), 42, clauses),
                               ("f", (("Q", "r"),), "R", "r", 0, ())))
        told = ("maker next 9\nmaker next 99\nfamily next\nfamily Nat\nfamily Nat\n"
                "con next : Who(next), Who(next(a, next, b)) -> Nat(c)\n"
                "fun f falls 42 : Q(r) -> R(next(next(n)))\n"
                "f(x, x, next(next)) = gone(y, next)\nf(x) = next\n"
                "fun f falls 0 : Q(r) -> R(r)\n")
        self.assertIs(is_table(table), False)
        self.assertEqual(write(table, program), told)
        self.assertEqual(read(told), (table, program))

    def test_words_of_lines(self):
        table = ("table", (("maker", 0),), ("family",), (("con", (("fun", "falls"),), "con", ("maker",)),))
        clauses = (((("con",), "maker"), ("fun", "falls", ("con",))),)
        program = ("program", (("falls", (("maker", "family"),), "family", ("maker",), 1, clauses),))
        told = ("maker maker 0\nfamily family\ncon con : fun(falls) -> con(maker)\n"
                "fun falls falls 1 : maker(family) -> family(maker)\nfalls(con, maker) = fun(falls, con)\n")
        self.assertEqual(write(table, program), told)
        self.assertEqual(read(told), (table, program))

    def test_forty_parentheses(self):
        body = "x"
        for _ in range(40):
            body = ("g", body)
        program = ("program", (("f", (("A", "n"),), "A", "n", 0, ((("x",), body),)),))
        text = write(EMPTY[0], program)
        self.assertEqual(text, "fun f falls 0 : A(n) -> A(n)\nf(x) = " + "g(" * 40 + "x" + ")" * 40 + "\n")
        self.assertEqual(read(text), (EMPTY[0], program))

    def test_terms_that_are_too_deep_to_be_read(self):
        term = "n"
        for _ in range(199):
            term = ("s", term)
        table = ("table", (("s", 1),), (), (("C", (), "A", term),))
        self.assertEqual(write(table, EMPTY[1]),
                         "maker s 1\ncon C : -> A(" + "s(" * 199 + "n" + ")" * 199 + ")\n")

    def test_nothing_is_changed(self):
        table, program = read(VECTORS)
        before = copy.deepcopy((table, program))
        write(table, program)
        self.assertEqual((table, program), before)


class BackAgain(unittest.TestCase):
    """`read` of what `write` has written."""

    MAKERS = ["z", "s", "maker"]
    CONSTRUCTORS = ["C", "D", "con"]
    OTHERS = ["x", "y1", "Family", "fun", "abcdefghijkl"]

    def tree(self, choice, words, most):
        which = choice.random()
        if which < 0.3 or most == 1:
            return choice.choice(self.OTHERS)
        if which < 0.5:
            return (choice.choice(words),)
        inner = [self.tree(choice, words, most - 1) for _ in range(choice.randint(1, 4))]
        return (choice.choice(words + self.OTHERS), *inner)

    def kinds(self, choice, least):
        return tuple((choice.choice(self.OTHERS), self.tree(choice, self.MAKERS, 4))
                     for _ in range(choice.randint(least, 3)))

    def pair(self, choice):
        makers = tuple((word, choice.choice([0, 1, 2, 10, 99])) for word in self.MAKERS)
        families = tuple(choice.choice(self.OTHERS) for _ in range(choice.randint(0, 3)))
        constructors = tuple(
            (word, self.kinds(choice, 0), choice.choice(self.OTHERS), self.tree(choice, self.MAKERS, 3))
            for word in self.CONSTRUCTORS)
        functions = tuple(self.function(choice) for _ in range(choice.randint(0, 3)))
        return ("table", makers, families, constructors), ("program", functions)

    def function(self, choice):
        clauses = tuple(
            (tuple(self.tree(choice, self.CONSTRUCTORS, 3) for _ in range(choice.randint(1, 3))),
             self.tree(choice, self.CONSTRUCTORS, 4))
            for _ in range(choice.randint(0, 3)))
        return (choice.choice(self.OTHERS), self.kinds(choice, 1), choice.choice(self.OTHERS),
                self.tree(choice, self.MAKERS, 3), choice.choice([0, 1, 9, 50]), clauses)

    def test_many_pairs(self):
        choice = random.Random(21)
        done = 0
        for _ in range(300):
            table, program = self.pair(choice)
            text = write(table, program)
            if len(text) <= 6000:
                done += 1
                self.assertEqual(read(text), (table, program), text)
        self.assertGreater(done, 200)


if __name__ == "__main__":
    unittest.main()
