import copy
import string
import unittest

from helpers import BIG, drawn_rows, drawn_shape, pattern_list, refused_with, source
from joinwood.errors import NoText
from joinwood.questions import letters_of, shape_of
from joinwood.texts import read_question, read_rows, show_question, show_rows

NO_TEXTS = [None, 0, 1, -1, True, False, [], (), {}, ["knows A"], ("knows", ("A",)), [("t", ("A",))], [(1,)], [[1]],
            ["1"], {"t": [(1,)]}, 1.5, b"", b"knows A", b"1", object(), str]

QUESTIONS = {
    "knows A B, likes B C": [("knows", ("A", "B")), ("likes", ("B", "C"))],
    "a A": [("a", ("A",))],
    "z Z": [("z", ("Z",))],
    "abcdefgh A": [("abcdefgh", ("A",))],
    "zzzzzzzz D B C A": [("zzzzzzzz", ("D", "B", "C", "A"))],
    "t A, t A": [("t", ("A",)), ("t", ("A",))],
    "t A B, t B A": [("t", ("A", "B")), ("t", ("B", "A"))],
    "a A, b B, c C, d D, e E, f F": [(name, (name.upper(),)) for name in "abcdef"],
    "t U V W X, t W X Y Z, t Y U": [("t", tuple("UVWX")), ("t", tuple("WXYZ")), ("t", tuple("YU"))],
    "table Q": [("table", ("Q",))],
    "ask A, count A B, shape B, bound C": [("ask", ("A",)), ("count", ("A", "B")), ("shape", ("B",)),
                                          ("bound", ("C",))],
}

NO_QUESTIONS = [
    "", " ", ",", ", ", "\n", "\t",
    "t A A", "t A B A", "t A B C A", "a B, t A A",
    "t A B C D E", "t A B C D E F", "a A, t A B C D E",
    "t A B C D, t E F G", "a A, b B, c C, d D, e E, f F G", "a A B, b C D, c E F, d G",
    "a A, a A, a A, a A, a A, a A, a A", "a A, b B, c C, d D, e E, f F, g A", ", ".join(["t A"] * 60),
    "abcdefghi A", "a" * 60 + " A", "t A, abcdefghi A",
    " A", "A A", "A", "T A", "tT A", "Tt A", "t1 A", "1 A", "t_ A", "t-t A", "_ A", "t.t A", "t; A", "' A", "t: A B",
    "t", "abc", "t ", "t A, t", "t, t A", "t, A", "t A,", "t A, ", ", t A", ",t A", "t A, , t B", "t A,, t B",
    "t  A", "t A  B", "t A,  t B", "t A ,t B", "t A , t B", "t A ,  t B",
    " t A", "t A ", "  t A", "t A  ", " t A, t B", "t A, t B ", "t A , t B",
    "t A,t B", "t A,B", "t A;t B", "t A; t B", "t A. t B", "t A t B", "t A, t B,t C",
    "t A\n", "\nt A", "t\nA", "t A\nt B", "t A,\nt B", "t A\n, t B", "t\n A", "t A \n", "t A, t B\n", "t A\n\n",
    "t\tA", "t A\t", "\tt A", "t A,\tt B", "t A\tB", "t\t A",
    "t a", "t A b", "t a B", "a b", "knows A b", "t AB", "t AB C", "t A BC", "t Aa", "t aA", "t ABCD", "tA",
    "t 1", "t A 1", "t A1", "t -", "t @", "t [", "t `", "t {", "t A @", "@ A", "` A", "{ A", "[ A",
    "knows(A, B)", "knows A B, likes B C.", "knows A B; likes B C", "knows A, B",
    "\u00e9 A", "t \u00c9", "t\u00a0A", "\u00df A", "t \u0391", "t A\u2028", "t A\r", "t A\r\n",
]

ROWS = {
    "": [],
    "0": [(0,)],
    "-1": [(-1,)],
    "1": [(1,)],
    "10": [(10,)],
    "-10": [(-10,)],
    "100 200": [(100, 200)],
    "0 0": [(0, 0)],
    "0 0 0 0 0 0": [(0,) * 6],
    "1 2; 3 4": [(1, 2), (3, 4)],
    "1 -2; -3 4": [(-3, 4), (1, -2)],
    "3; 1; 2": [(1,), (2,), (3,)],
    "2; 10; -10; -9; 0": [(-10,), (-9,), (0,), (2,), (10,)],
    "1; 1": [(1,)],
    "2 1; 1 2; 2 1; 1 2; 2 1": [(1, 2), (2, 1)],
    "1 2 3 4 5 6; 1 2 3 4 5 -6": [(1, 2, 3, 4, 5, -6), (1, 2, 3, 4, 5, 6)],
    "9" * 60: [(BIG,)],
    "-" + "9" * 60: [(-BIG,)],
    "1" + "0" * 59: [(10 ** 59,)],
    "-1" + "0" * 59 + " 0": [(-10 ** 59, 0)],
}

NO_ROWS = [
    " ", ";", "; ", "\n", "\t", "-", "+", "--1", "- 1", "-1-", "1-", "1-2", "-1 -", "1 - 2",
    "-0", "0; -0", "1 -0", "-0 1", "-00", "00", "000", "01", "-01", "007", "0 00", "1 02", "1; 01", "-010",
    "+1", "+0", "1 +1", "1; +1", "-+1", "+-1",
    "1" * 61, "-" + "1" * 61, "1" + "0" * 60, "9" * 61, "1 " + "9" * 61, "0" * 61, "0" + "1" * 60, "1" * 5000,
    "1 2 3 4 5 6 7", "0 0 0 0 0 0 0", "1 2 3 4 5 6 7; 1 2 3 4 5 6 7", "1 2; 1 2 3 4 5 6 7",
    "1; 1 2", "1 2; 1", "1 2; 3 4; 5", "1 2; 3 4; 5 6 7", "1 2; 3; 4 5", "1; 2 3; 4",
    "1; ; 2", "1; 2; ", "; 1", "1 2; ; 3 4",
    "1  2", "1;  2", "1 ; 2", "1; 2  3", "1 2;  3 4", "  ",
    " 1", "1 ", " 1; 2", "1; 2 ", "1 2 ", " 1 2", "1 ;2",
    "1;2", "1 2;3 4", "1;", ";1", "1; 2;3", "1;; 2", "1, 2", "1,2", "1. 2", "1: 2",
    "1\n", "\n1", "1\n2", "1;\n2", "1; 2\n", "1\t2", "1\t", "\t1", "1;\t2", "1 \n", "-\n1", "-1\n", "1 2\n; 3 4",
    "a", "A", "1a", "a1", "1 a", "x1", "0x1", "1e5", "1.0", "1.", ".1", "1_0", "1_000", "_1", "1_", "I", "l", "O", "o",
    "\u0661", "1\u0662", "\u00b2", "\uff11", "\u22121", "1\u00a02", "1\r", "1; 2\r\n", "1\x0b2", "1\x1c",
    "(1, 2)", "[1]", "'1'", "\"1\"", "None", "True", "1/2", "1*2", "#1", "~1", "1!", "/", ":", "1:",
]


class Parted(unittest.TestCase):
    def read_refused(self, read, texts):
        for text in texts:
            with self.subTest(text):
                before = copy.deepcopy(text) if isinstance(text, (list, tuple, dict)) else text
                refused_with(self, NoText, lambda: read(text))
                self.assertEqual(text, before)


class Questions(Parted):
    def test_read(self):
        for text, question in QUESTIONS.items():
            told = read_question(text)
            self.assertEqual(told, question, text)
            self.assertIs(type(told), list)
            for pattern in told:
                self.assertEqual((type(pattern), len(pattern)), (tuple, 2))
                self.assertEqual((type(pattern[0]), type(pattern[1])), (str, tuple))
                self.assertEqual({type(letter) for letter in pattern[1]}, {str})

    def test_shown(self):
        for text, question in QUESTIONS.items():
            before = copy.deepcopy(question)
            self.assertEqual(show_question(question), text)
            self.assertIs(type(show_question(question)), str)
            self.assertEqual(question, before)

    def test_none(self):
        self.read_refused(read_question, NO_QUESTIONS)

    def test_no_text(self):
        self.read_refused(read_question, NO_TEXTS)

    def test_every_letter_of_names_and_patterns(self):
        for name in string.ascii_lowercase:
            for letter in "AMZ":
                self.assertEqual(read_question(f"{name} {letter}"), [(name, (letter,))])
        for letter in string.ascii_uppercase:
            self.assertEqual(read_question(f"t {letter}"), [("t", (letter,))])

    def test_every_other_sign(self):
        signs = [sign for sign in map(chr, range(32, 127)) if sign != "%"] + ["\n", "\t"]
        for sign in signs:
            if sign not in string.ascii_lowercase:
                self.read_refused(read_question, [f"{sign} A", f"t{sign} A", f"{sign}t A", f"t{sign}t A"])
            if sign not in string.ascii_uppercase:
                self.read_refused(read_question, [f"t {sign}", f"t A {sign}", f"t {sign} A", f"t A{sign}"])
            if sign not in string.ascii_uppercase + " ":
                self.read_refused(read_question, [f"t A{sign}t B", f"t A,{sign}t B", f"t{sign}A"])

    def test_names_of_each_length(self):
        for length in range(1, 9):
            self.assertEqual(read_question("q" * length + " A"), [("q" * length, ("A",))])
        for length in [0, 9, 10, 80]:
            self.read_refused(read_question, ["q" * length + " A"])

    def test_letters_of_each_count(self):
        for size in range(1, 5):
            self.assertEqual(read_question("t " + " ".join("WXYZ"[:size])), [("t", tuple("WXYZ"[:size]))])
        self.read_refused(read_question, ["t " + " ".join("ABCDEFGH"[:size]) for size in range(5, 9)])

    def test_patterns_of_each_count(self):
        for size in range(1, 7):
            self.assertEqual(read_question(", ".join(["t A B"] * size)), [("t", ("A", "B"))] * size)
        self.read_refused(read_question, [", ".join(["t A B"] * size) for size in range(7, 12)])

    def test_six_letters_in_all_and_seven(self):
        self.assertEqual(letters_of(shape_of(read_question("t A B C D, u C D E F, v F A"))), list("ABCDEF"))
        self.read_refused(read_question, ["t A B C D, u C D E F, v F G", "t A B C D, u E F G"])

    def test_what_is_shown_is_read_back(self):
        draw = source(51)
        for turn in range(300):
            shape = drawn_shape(draw, draw.randint(1, 6), draw.choice(["ABCDEF", "UVWXYZ", "AZ"]))
            names = ["".join(draw.choice("abyz") for sign in range(draw.randint(1, 8))) for letters in shape]
            question = list(zip(names, shape))
            before = copy.deepcopy(question)
            told = read_question(show_question(question))
            self.assertEqual(told, question)
            self.assertEqual(question, before)
            self.assertEqual(show_question(told), show_question(question))

    def test_a_list_of_ones_own(self):
        told = read_question("knows A B, likes B C")
        told.clear()
        self.assertEqual(read_question("knows A B, likes B C"), QUESTIONS["knows A B, likes B C"])


class Rows(Parted):
    def test_read(self):
        for text, rows in ROWS.items():
            told = read_rows(text)
            self.assertEqual(told, rows, text)
            self.assertIs(type(told), list)
            self.assertEqual({type(row) for row in told} - {tuple}, set())
            self.assertEqual({type(cell) for row in told for cell in row} - {int}, set())

    def test_shown(self):
        self.assertEqual(show_rows([]), "")
        self.assertEqual(show_rows([(0,)]), "0")
        self.assertEqual(show_rows([(-3, 4), (1, -2)]), "-3 4; 1 -2")
        self.assertEqual(show_rows([(1,), (2,), (10,)]), "1; 2; 10")
        self.assertEqual(show_rows([(1, 2, 3, 4, 5, 6)]), "1 2 3 4 5 6")
        self.assertEqual(show_rows([(-BIG,), (BIG,)]), "-" + "9" * 60 + "; " + "9" * 60)
        self.assertIs(type(show_rows([(1,)])), str)

    def test_none(self):
        self.read_refused(read_rows, NO_ROWS)

    def test_no_text(self):
        self.read_refused(read_rows, NO_TEXTS)

    def test_every_other_sign(self):
        for sign in [sign for sign in map(chr, range(32, 127)) if sign != "%"] + ["\n", "\t"]:
            if sign not in string.digits:
                self.read_refused(read_rows, [f"1{sign}", f"1{sign};2", f"5; {sign}", f"1{sign}; 2"])
                self.read_refused(read_rows, [f"{sign}1", f"4 {sign}1"] if sign != "-" else [])
                self.read_refused(read_rows, [f"1{sign}2"] if sign != " " else [])

    def test_rows_of_each_count(self):
        for size in [1, 2, 59, 60]:
            told = read_rows("; ".join([f"{i} 0" for i in range(size, 0, -1)]))
            self.assertEqual(told, [(i, 0) for i in range(1, size + 1)])
        for size in [61, 62, 120]:
            self.read_refused(read_rows, ["; ".join([f"{i} 0" for i in range(size)])])

    def test_rows_twice_count_as_they_stand(self):
        self.assertEqual(read_rows("; ".join(["7"] * 60)), [(7,)])
        self.read_refused(read_rows, ["; ".join(["7"] * 61), "; ".join(["7 8"] * 30 + ["8 7"] * 31)])

    def test_figures_of_each_count(self):
        for size in [1, 2, 30, 59, 60]:
            for sign in ["", "-"]:
                self.assertEqual(read_rows(sign + "8" * size), [(int(sign + "8" * size),)])
        for size in [61, 62, 100]:
            self.read_refused(read_rows, ["8" * size, "-" + "8" * size, "1; " + "8" * size])

    def test_cells_of_each_count(self):
        for size in range(1, 7):
            cells = tuple(range(-size, 0))
            self.assertEqual(read_rows(" ".join(str(cell) for cell in cells)), [cells])
        self.read_refused(read_rows, [" ".join("1234567890"[:size]) for size in range(7, 10)])

    def test_what_is_shown_is_read_back(self):
        draw = source(52)
        for turn in range(300):
            shape = [tuple("ABCDEF"[:draw.randint(1, 6)])]
            cells = draw.choice([[0, 1, 2], [-BIG, -1, 0, 10, BIG], list(range(-99, 100))])
            rows = drawn_rows(draw, shape, 60, cells)[0]
            before = copy.deepcopy(rows)
            self.assertEqual(read_rows(show_rows(rows)), rows)
            self.assertEqual(rows, before)
            mixed = draw.sample(rows, len(rows)) + rows[:60 - len(rows)]
            self.assertEqual(read_rows(show_rows(mixed)), rows)

    def test_more_than_sixty_are_shown(self):
        rows = [(i, -i) for i in range(300)]
        self.assertEqual(show_rows(rows), "; ".join(f"{i} {-i}" for i in range(300)))

    def test_a_list_of_ones_own(self):
        for text in ["", "2; 1"]:
            told = read_rows(text)
            told.append((9,))
            self.assertEqual(read_rows(text), ROWS.get(text, [(1,), (2,)]))
        rows = [(1,), (2,)]
        show_rows(rows)
        self.assertEqual(rows, [(1,), (2,)])


class Shapes(unittest.TestCase):
    def test_a_question_that_is_read_has_its_shape(self):
        self.assertEqual(shape_of(read_question("knows A B, likes B C, knows C A")), pattern_list("AB BC CA"))


if __name__ == "__main__":
    unittest.main()
