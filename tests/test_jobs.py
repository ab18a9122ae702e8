"""Points 1200 to 1202: jobs, their answers and their errors."""

import unittest

from exactkinds.errors import BadJob, BadProgram, BadTable, BadText
from exactkinds.jobs import answers
from exactkinds.machine import holding, machine_of, state_of
from exactkinds.judging import right_functions
from exactkinds.pieces import unreached
from exactkinds.reading import read
from exactkinds.runs import run
from exactkinds.writing import write
from tests.oracle import ALL, AT_TEXT, BALANCED_TEXT, MORE_TEXT, TURNS_TEXT, TYPED_TEXT, VECTOR_TEXT
from tests.samples import ANYTHING, trees_by_hand

ODD_TEXT = """
maker z 0
maker s 1
family Nat
con Z : -> Nat(z)
con S : Nat(n) -> Nat(s(n))
"""


class Case(unittest.TestCase):

    def tells(self, text, *told):
        found = answers(text)
        self.assertIsInstance(found, list)
        self.assertEqual(found, list(told))

    def asks(self, text, questions):
        """Ask questions with their answers, all in one job and each in a job of its own."""
        self.tells(text + "".join(f"ask {question}\n" for question, _ in questions), *(told for _, told in questions))
        for question, told in questions:
            self.tells(text + f"ask {question}\n", told)

    def bad_text(self, text, line):
        with self.assertRaises(BadText) as caught:
            answers(text)
        self.assertEqual(caught.exception.line, line)

    def bad(self, error, text):
        with self.assertRaises(error):
            answers(text)


class Answers(Case):

    def test_let(self):
        self.asks(AT_TEXT, [("let", "let")])
        self.asks(MORE_TEXT, [("let", "not head")])
        self.asks(TURNS_TEXT, [("let", "not never")])
        self.asks(BALANCED_TEXT, [("let", "not bad")])
        self.asks(VECTOR_TEXT, [("let", "let")])

    def test_right(self):
        self.asks(MORE_TEXT, [("right at", "yes"), ("right head", "no"), ("right join", "no"), ("right map", "yes")])
        self.asks(TYPED_TEXT, [("right eval", "yes"), ("right wrong", "no")])

    def test_never(self):
        self.asks(TURNS_TEXT + """
fun f falls 0 : Even(next(next(n))) -> Even(n)
f(E) = E
f(F(O(x))) = x
f(F(o)) = E
f(x) = x
""", [("never up", "none"), ("never never", "0"), ("never f", "0 2 3")])

    def test_holds(self):
        self.asks(AT_TEXT, [("holds Vec(z)", "yes"), ("holds Fin(z)", "no"), ("holds Fin(s(z))", "yes"),
                            ("holds Bit ( s ( s(z) ) )", "no"), ("holds Nat(" + "s(" * 38 + "z" + ")" * 39, "yes")])

    def test_index(self):
        self.asks(AT_TEXT, [
            ("index Nil", "Vec(z)"), ("index On", "Bit(z)"), ("index Cons(On, Cons(Off, Nil))", "Vec(s(s(z)))"),
            ("index Cons(Zero, Nil)", "none"), ("index Top(Succ(Zero))", "Fin(s(s(z)))"),
            ("index Succ(Nil)", "none"), ("index Succ(Succ(On))", "none")])
        self.asks(TYPED_TEXT, [("index Both(Yes,Both(Nought,No))", "Val(prod(bool, prod(num, bool)))"),
                               ("index Fst(Lit(Yes))", "none"), ("index B", "Ty(bool)")])

    def test_run(self):
        self.asks(MORE_TEXT, [
            ("run map(Cons(On, Nil)) steps 99", "right Cons(Off, Nil)"), ("run map(Nil) steps 2", "right Nil"),
            ("run map(Nil) steps 1", "long"), ("run map(Nil) steps 0", "long"),
            ("run at(Pop(Top(Zero)), Cons(On, Cons(Off, Nil))) steps 10", "right Off"),
            ("run at(Top(Zero), Nil) steps 10", "wrong demand at -1"),
            ("run head(Nil) steps 10", "wrong hole head -1"),
            ("run short(Cons(On, Nil)) steps 10", "wrong result short -1"),
            ("run map(Zero) steps 10", "wrong demand map -1"),
            ("run map(Cons(On, On)) steps 10", "wrong demand map -1")])

    def test_run_that_is_wrong_deep_in_a_body(self):
        self.asks(VECTOR_TEXT + """
fun map falls 0 : Vec(n) -> Vec(n)
map(w) = w
fun zip falls 0 : Vec(n), Vec(n) -> Vec(n)
zip(v, w) = w
fun max falls 0 : Nat(n) -> Fin(s(n))
max(Zero) = Top(Zero)
max(Succ(k)) = Pop(max(k))
fun head falls 0 : Vec(n) -> Bit(z)
head(Cons(x, r)) = x
fun short falls 0 : Vec(n) -> Vec(n)
short(Nil) = Nil
short(Cons(x, r)) = r
fun deep falls 0 : Vec(n) -> Vec(n)
deep(Nil) = Cons(On, map(Cons(On, Cons(head(Nil), Nil))))
deep(w) = map(short(w))
fun put falls 0 : Vec(n), Nat(m) -> Vec(n)
put(w, k) = zip(w, zip(w, zip(Cons(On, w), w)))
fun made falls 0 : Nat(n), Nat(m) -> Fin(s(n))
made(k, Zero) = Pop(max(k))
made(k, l) = Top(k)
""", [("run deep(Nil) steps 99", "wrong hole deep 0 1 0 1 0"), ("run deep(Cons(On, Nil)) steps 99",
                                                              "wrong result deep 1 0"),
      ("run put(Nil, Zero) steps 9", "wrong demand put 0 1 1"), ("run made(Zero, Zero) steps 9",
                                                                "wrong result made -1")])
        self.asks(BALANCED_TEXT + """
fun put falls 0 : Bal(n), Bal(m) -> Bal(next(n))
put(l, r) = Full(l, l)
fun make falls 0 : Bal(n), Bal(m) -> Bal(next(next(n)))
make(l, r) = Full(put(l, l), Full(l, r))
""", [("run make(Leaf, Full(Leaf, Leaf)) steps 9", "wrong make make 0 1"), ("run make(Leaf, Leaf) steps 9",
                                                                           "right Full(Full(Leaf, Leaf), "
                                                                           "Full(Leaf, Leaf))")])

    def test_order_of_the_questions(self):
        self.tells("ask right at\n" + AT_TEXT.replace("family Nat", "ask let\nfamily Nat\nask holds Nat(s(z))")
                   + "\n ask  index  On # what it is\nask never at\n", "yes", "let", "yes", "Bit(z)", "none")

    def test_no_questions(self):
        self.tells(AT_TEXT)
        self.tells(VECTOR_TEXT)

    def test_questions_between_clauses(self):
        self.tells(AT_TEXT.replace("at(Pop", "ask run at(Top(Zero), Cons(On, Nil)) steps 5\nat(Pop") + "ask let\n",
                   "right On", "let")

    def test_words_that_are_declared_further_down(self):
        self.tells("ask index B\nask holds C(e)\nask run f(B) steps 1\nmaker e 0\nfamily C\ncon B : -> C(e)\n"
                   "fun f falls 0 : C(n) -> C(n)\nf(x) = x\n", "C(e)", "yes", "right B")

    def test_ask_is_a_word_like_others(self):
        text = """
maker let 0
maker ask 1
family right
family never
con index : -> right(let)
con run : right(steps) -> right(ask(steps))
con holds : right(n) -> never(n)
fun ask0 falls 0 : right(n) -> right(n)
ask0(index) = index
ask0(run(right)) = run(ask0(right))
fun ask falls 0 : right(n) -> never(n)
ask(run) = holds(run)
"""
        with self.assertRaises(BadTable):
            answers(text.replace("maker ask", "maker index"))
        text = text.replace("maker ask 1", "maker as 1").replace("right(ask(", "right(as(")
        text = text.replace("ask(run)", "ask(v)").replace("holds(run)", "holds(v)")
        self.tells(text + "ask let\nask right ask\nask never ask0\nask holds never(as(let))\nask index run(index)\n"
                   "ask run ask(run(index)) steps 2\nask run ask0(run(index)) steps 4\n",
                   "let", "yes", "none", "yes", "right(as(let))", "right holds(run(index))", "right run(index)")

    def test_words_like_the_names_of_skeletons_and_contexts(self):
        text = """
maker i0 0
maker i1 1
family v0
family i2
con v1 : -> v0(i0)
con v2 : v0(i3) -> v0(i1(i3))
con v3 : v0(v0), i2(v1) -> i2(v1)
con i5 : -> i2(i0)
fun v9 falls 0 : v0(i1(v4)), v0(i9) -> v0(i1(v4))
v9(v2(v8), v1) = v2(v8)
v9(v2(i0), v2(v0)) = v9x(v2(i0), v2(v0))
fun v9x falls 1 : v0(i1), v0(i1(v2)) -> v0(i1)
v9x(i4, i6) = i4
""".replace("v0(i1), v0(i1(v2)) -> v0(i1)", "v0(i8), v0(i1(v2)) -> v0(i8)")
        self.tells(text + "ask let\nask never v9\nask index v2(v1)\nask run v9(v2(v1), v2(v1)) steps 9\n"
                   "ask holds i2(i1(i0))\nask index v3(v1, i5)\n", "let", "none", "v0(i1(i0))", "right v2(v1)", "no",
                   "i2(i0)")
        wrong = text.replace("v9(v2(v8), v1) = v2(v8)", "v9(v2(v8), v1) = v8")
        self.tells(wrong + "ask let\nask right v9x\nask right v9\n", "not v9", "yes", "no")

    def test_as_the_functions_say(self):
        for text in (AT_TEXT, MORE_TEXT, TYPED_TEXT, TURNS_TEXT, BALANCED_TEXT):
            table, program = read(text)
            machine = machine_of(table)
            right = right_functions(table, machine, program)
            questions = []
            for function in program[1]:
                word = function[0]
                questions.append((f"right {word}", "yes" if word in right else "no"))
                never = unreached(table, machine, function)
                questions.append((f"never {word}", " ".join(map(str, never)) if never else "none"))
            self.asks(text, questions)
            questions = []
            for tree in trees_by_hand(table[1], 4)[:8]:
                shown = write(table, ("program", (("f", (("A", tree),), "A", tree, 0, ()),))).split("A(")[-1][:-2]
                for family in table[2]:
                    told = family in holding(machine, state_of(machine, tree))
                    questions.append((f"holds {family}({shown})", "yes" if told else "no"))
            self.asks(text, questions)
        self.assertEqual(len(ALL), 5)

    def test_steps_as_runs_count_them(self):
        table, program = read(MORE_TEXT)
        value = ("Cons", ("On",), ("Cons", ("Off",), ("Nil",)))
        for steps in range(12):
            told = run(table, program, "map", (value,), steps)
            answer = "long" if told == ("long",) else "right Cons(Off, Cons(On, Nil))"
            self.tells(MORE_TEXT + f"ask run map(Cons(On, Cons(Off, Nil))) steps {steps}\n", answer)


class Texts(Case):

    def test_any_value(self):
        for value in ANYTHING:
            if isinstance(value, str) and not value:
                continue
            if isinstance(value, str):
                self.bad_text(value, 1)
            else:
                self.bad_text(value, 0)
        self.bad_text(b"ask let\n", 0)

    def test_signs_and_size(self):
        self.bad_text(AT_TEXT + "ask let %\n", 0)
        self.bad_text(AT_TEXT + "ask let\t\n", 0)
        self.bad_text(AT_TEXT + "#" * (6000 - len(AT_TEXT)) + "\n", 0)
        self.tells(AT_TEXT + "ask let" + " " * (6000 - len(AT_TEXT) - 8) + "\n", "let")

    def test_lines_are_counted_with_the_questions(self):
        self.bad_text("ask let\nask let\nask\nask let\n", 3)
        self.bad_text("ask let\nmaker z\n", 2)
        self.bad_text("ask let\nask right f", 2)
        self.bad_text("ask let\nask no\nask right f", 2)
        self.bad_text("ask let\nask right f\nf(x) = x\n", 3)

    def test_questions_that_are_none(self):
        for row in ("ask", "ask let let", "ask let at", "ask right", "ask right at at", "ask right (at)", "ask never",
                    "ask never 1", "ask holds", "ask holds Nat", "ask holds Nat()", "ask holds Nat(z, z)",
                    "ask holds (z)", "ask holds Nat(z", "ask holds Nat z", "ask index", "ask index Cons(",
                    "ask index On, On", "ask index (On)", "ask index On Off", "ask index Cons()", "ask run",
                    "ask run at", "ask run at()", "ask run at() steps 1", "ask run at(On)", "ask run at(On) steps",
                    "ask run at(On) steps 100", "ask run at(On) steps 01", "ask run at(On) steps -1",
                    "ask run at(On) steps x", "ask run at(On) 5", "ask run at(On) steps 5 5", "ask run (On) steps 5",
                    "ask run at On steps 5", "ask other", "ask other at", "ask Let", "Ask let", "ask 1",
                    "ask holds Nat(1)", "ask index " + "Succ(" * 41 + "Zero" + ")" * 41, "ask = let", "ask lets"):
            self.bad_text(f"{row}\n", 1)
            self.bad_text(AT_TEXT + f"{row}\nask let\n", AT_TEXT.count("\n") + 1)

    def test_read_takes_no_questions(self):
        for row in ("ask let", "ask right at", "ask index On"):
            with self.assertRaises(BadText) as caught:
                read(AT_TEXT + row + "\n")
            self.assertEqual(caught.exception.line, AT_TEXT.count("\n") + 1)

    def test_clauses_whose_word_is_ask(self):
        self.bad_text(AT_TEXT + "ask(x) = x\n", AT_TEXT.count("\n") + 1)


class Errors(Case):

    def test_table(self):
        self.bad(BadTable, "")
        self.bad(BadTable, "ask let\n")
        self.bad(BadTable, AT_TEXT + "maker z 0\n")
        self.bad(BadTable, AT_TEXT + "con Bad : -> Vec(s(z))\nask right none\n")
        self.bad(BadTable, AT_TEXT + "maker m 3\nat(Nil) = w\n")

    def test_program(self):
        self.bad(BadProgram, AT_TEXT + "at(x, y) = z\n")
        self.bad(BadProgram, AT_TEXT + "at(x, y) = at(x, y)\nask right none\n")
        self.bad(BadProgram, AT_TEXT + "fun at falls 0 : Nat(n) -> Nat(n)\nask index none\n")
        self.bad(BadProgram, VECTOR_TEXT + "fun f falls 1 : Nat(n) -> Nat(n)\n")

    def test_questions(self):
        for row in ("right no", "never no", "right z", "right On", "never Nat", "run no(On) steps 1",
                    "run Cons(On, Nil) steps 5", "holds No(z)", "holds z(z)", "holds At(z)", "holds On(z)",
                    "holds Nat(n)", "holds Nat(s(n))", "holds Nat(s)", "holds Nat(z(z))", "holds Nat(s(z, z))",
                    "holds Nat(On)", "holds Nat(Zero)", "holds Nat(t(z))", "index x", "index Cons(On, x)", "index z",
                    "index Cons", "index Cons(On)", "index Cons(On, Nil, Nil)", "index On(On)", "index Nat", "index at",
                    "index at(On, On)", "index s(Zero)", "run at(Top(Zero)) steps 9",
                    "run at(Top(Zero), Nil, Nil) steps 9", "run at(x, Nil) steps 9",
                    "run at(Top(Zero), Cons(On)) steps 9",
                    "run at(Top(Zero), z) steps 9", "run at(Top(n), Nil) steps 9"):
            self.bad(BadJob, AT_TEXT + f"ask {row}\n")
            self.bad(BadJob, f"ask let\nask {row}\n{AT_TEXT}ask let\n")

    def test_which_error_comes_first(self):
        bad_text, bad_table, bad_program, bad_job = "ask\n", "maker z 0\n", "at(x, y) = z\n", "ask right no\n"
        for rows, error in (((bad_job, bad_program, bad_table, bad_text), BadText),
                            ((bad_job, bad_program, bad_table), BadTable), ((bad_job, bad_program), BadProgram),
                            ((bad_job,), BadJob), ((bad_table, bad_text), BadText), ((bad_table, bad_job), BadTable),
                            ((bad_program, bad_text), BadText), ((bad_program, bad_table), BadTable),
                            ((bad_job, bad_text), BadText), ((bad_job, bad_table), BadTable)):
            self.bad(error, AT_TEXT + "".join(rows))
            if bad_program not in rows:
                self.bad(error, "".join(rows) + AT_TEXT)
        self.bad_text("ask right no\nmaker\n", 2)
        self.bad_text("ask right no\n\nask index\nmaker z 0\n", 3)


if __name__ == "__main__":
    unittest.main()
