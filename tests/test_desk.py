import copy
import itertools
import unittest

from helpers import BIG, answers_by_trial, drawn_rows, drawn_shape, pattern_list, refused_with, source
from joinwood.desk import Desk
from joinwood.errors import NoRow, NoTable, NoText, NoWidth
from joinwood.questions import answers
from joinwood.texts import show_question, show_rows
from joinwood.trees import apart
from joinwood.weights import bound
from test_texts import NO_QUESTIONS, NO_ROWS, NO_TEXTS

WORDS = ["table", "ask", "count", "shape", "bound"]
ASKING = ["ask", "count", "shape", "bound"]

NO_WORDS = [
    "", " ", "  ", "\n", "\t", "show A", "show", "show ", "help", "tables", "tables a 1", "asks t A", "as t A",
    "sk t A", "a t A", "counts t A", "coun t A", "shapes t A", "bounds t A", "tabl a 1", "tablea 1", "askt A",
    "ask, t A", "ask; t A", "ask\n", "ask\tt A", "\task t A", "ask\n t A", "\nask t A", "ask\t t A", "table\n a 1",
    "count\tt A", "t A", "A", "knows A B", "1 2; 3 4", "table:", "ask: t A", "tableask a 1", "ask.count t A", "ok",
    "ok ", "tree t A", "1 ask t A",
]


def shouted(word):
    return [word.upper(), word.capitalize(), word[:-1] + word[-1].upper()]


class DeskTests(unittest.TestCase):
    def setUp(self):
        self.desk = Desk()

    def told(self, rows):
        for row in rows:
            self.assertEqual(self.desk.say(row), "ok")

    def says(self, row, wanted):
        told = self.desk.say(row)
        self.assertEqual(told, wanted, row)
        self.assertIs(type(told), str)

    def refuses(self, refusal, row):
        with self.subTest(row):
            refused_with(self, refusal, lambda: self.desk.say(row))


class Rows(DeskTests):
    def test_table_and_ask(self):
        self.told(["table knows 1 2; 2 3", "table likes 3 8; 2 7"])
        self.says("ask knows A B, likes B C", "1 2 7; 2 3 8")
        self.says("ask likes B A", "7 2; 8 3")
        self.says("ask knows A B, knows B A", "")

    def test_count(self):
        self.told(["table knows 1 2; 2 3; 2 2"])
        self.says("count knows A B", "3")
        self.says("count knows A B, knows B C", "4")
        self.says("count knows A B, knows C D", "9")
        self.says("count knows A B, knows B C, knows B D", "8")
        self.says("count knows A B, knows B A", "1")

    def test_count_where_there_is_no_tree(self):
        self.told(["table t 1 2; 2 3; 3 1; 1 1"])
        self.says("count t A B, t B C, t C A", "4")
        self.says("shape t A B, t B C, t C A", "core")
        self.told(["table u 5 6"])
        self.says("count t A B, t B C, u C A", "0")

    def test_shape(self):
        self.says("shape knows A B, likes B C", "tree")
        self.says("shape a A B, b B C, c C A", "core")
        self.says("shape a A B, b B C, c C A, d A B C", "tree")
        self.says("shape a A", "tree")
        self.says("shape a A B, a B C, a C D, a D A", "core")

    def test_shape_whatever_tables_there_are(self):
        rows = ["shape t A B, t B C, t C A", "shape t A, u B", "shape t A B, u A"]
        before = [self.desk.say(row) for row in rows]
        self.assertEqual(before, ["core", "tree", "tree"])
        self.told(["table t 1 2 3", "table u "])
        self.assertEqual([self.desk.say(row) for row in rows], before)
        self.refuses(NoWidth, "ask t A, u B")

    def test_bound(self):
        self.told(["table t 1 2; 2 3; 3 1", "table u 1 1; 2 2", "table none "])
        self.says("bound t A B, t B C, t C A", "2 27")
        self.says("bound t A B, u B C, t C A", "2 18")
        self.says("bound t A B, t B C, none C A", "2 0")
        self.says("bound t A F, u B F, t C F", "1 18")
        self.says("bound t A F, u B F, none F", "1 6")
        self.says("bound none A", "1 0")

    def test_bound_is_that_of_the_rows_as_they_stand(self):
        self.told(["table t 1 2; 1 2; 2 3; 2 3; 1 2", "table u 9 9"])
        self.says("bound t A F, t B F, u C F", "1 4")
        self.says("ask t A F, t B F, u C F", "")

    def test_a_table_with_no_rows(self):
        self.told(["table none ", "table t 1; 2"])
        self.says("ask none A", "")
        self.says("ask none A B C D", "")
        self.says("count none A B", "0")
        self.says("ask t A, none B", "")
        self.says("count t A, none A", "0")
        self.says("count none A B, none B C, none C A", "0")

    def test_a_table_told_anew(self):
        self.told(["table t 1; 2; 3"])
        self.says("ask t A", "1; 2; 3")
        self.told(["table t 7 8"])
        self.says("ask t A B", "7 8")
        self.refuses(NoWidth, "ask t A")
        self.told(["table t "])
        self.says("ask t A", "")
        self.told(["table t 4"])
        self.says("ask t A", "4")

    def test_names_that_are_words_of_rows(self):
        for i, word in enumerate(WORDS):
            self.told([f"table {word} {i}; 9"])
        for i, word in enumerate(WORDS):
            self.says(f"ask {word} A", f"{i}; 9")
            self.says(f"count {word} A, {word} A", "2")
            self.says(f"shape {word} A", "tree")
            self.says(f"bound {word} A", "1 2")
        self.says("ask table A, ask A, count A", "9")

    def test_rows_twice_and_out_of_order(self):
        self.told(["table t 3 1; 1 2; 3 1; -1 0; 1 -2"])
        self.says("ask t A B", "-1 0; 1 -2; 1 2; 3 1")
        self.says("ask t B A", "-2 1; 0 -1; 1 3; 2 1")
        self.says("count t A B", "4")

    def test_cells_of_sixty_figures(self):
        self.told([f"table t {BIG} {-BIG}; {-BIG} 0"])
        self.says("ask t A B", f"{-BIG} 0; {BIG} {-BIG}")
        self.says("ask t A B, t B C", f"{BIG} {-BIG} 0")

    def test_sixty_rows_and_more_answers(self):
        self.told(["table t " + "; ".join(str(i) for i in range(60))])
        self.says("ask t A", "; ".join(str(i) for i in range(60)))
        self.says("ask t A, t B", "; ".join(f"{a} {b}" for a in range(60) for b in range(60)))
        self.says("count t A, t B", "3600")

    def test_ten_thousand_answers(self):
        self.told(["table t " + "; ".join(str(i) for i in range(10))])
        wanted = "; ".join(" ".join(map(str, cells)) for cells in itertools.product(range(10), repeat=4))
        self.says("ask t D, t B, t A, t C", wanted)

    def test_six_patterns_of_sixty_rows_that_share_no_letter_are_counted(self):
        self.told(["table t " + "; ".join(str(i * 7 - 200) for i in range(60))])
        self.says("count t A, t B, t C, t D, t E, t F", str(60 ** 6))
        self.says("bound t A, t B, t C, t D, t E, t F", f"1 {60 ** 6}")
        self.told(["table u " + "; ".join(f"{i} 0" for i in range(60))])
        self.says("count u A F, u B F, u C F, u D F, u E F", str(60 ** 5))

    def test_rows_of_six_cells_are_kept(self):
        self.told(["table t 1 2 3 4 5 6", "table u 1 2 3 4 5"])
        self.refuses(NoWidth, "ask t A B C D")
        self.refuses(NoWidth, "ask u A B C D")

    def test_eight_tables(self):
        names = ["a", "bb", "ccc", "dddd", "eeeee", "ffffff", "ggggggg", "hhhhhhhh"]
        for i, name in enumerate(names):
            self.told([f"table {name} {i}"])
        for i, name in enumerate(names):
            self.says(f"ask {name} A", str(i))

    def test_three_hundred_rows(self):
        for i in range(150):
            self.told([f"table t {i}"])
            self.says("ask t A", str(i))


class Refused(DeskTests):
    asked = ["ask t A B", "count t A B, t B C", "bound t A B, u A, u B", "ask u A", "count none A, u A", "bound none A"]

    def setUp(self):
        DeskTests.setUp(self)
        self.told(["table t 1 2; 2 3", "table u 2; 3", "table none "])
        self.stands = [self.desk.say(row) for row in self.asked]

    def refuses(self, refusal, row):
        DeskTests.refuses(self, refusal, row)
        self.assertEqual([self.desk.say(row) for row in self.asked], self.stands, row)
        for gone in ["gone", "a", "x"]:
            refused_with(self, NoTable, lambda: self.desk.say(f"ask {gone} A"))

    def test_rows_that_are_none(self):
        for row in NO_WORDS:
            self.refuses(NoRow, row)

    def test_words_without_a_space_behind(self):
        for word in WORDS:
            self.refuses(NoRow, word)
            self.refuses(NoRow, word + "\n")
            self.refuses(NoRow, word + "\tt")

    def test_a_space_ahead(self):
        for row in ["ask t A B", "count t A B", "shape t A B", "bound t A B", "table t 5", "table a 1"]:
            self.refuses(NoRow, " " + row)
            self.refuses(NoRow, "  " + row)

    def test_great_letters(self):
        for word in WORDS:
            for other in shouted(word):
                self.refuses(NoRow, f"{other} t A B")
                self.refuses(NoRow, f"{other} t 5")

    def test_table_without_a_second_space(self):
        for row in ["table a", "table t", "table ", "table 1", "table A", "table a,1", "table t\n", "table abcdefghi",
                    "table a;", "table t\t5", "table a\n5"]:
            self.refuses(NoRow, row)

    def test_no_text(self):
        for row in NO_TEXTS:
            before = copy.deepcopy(row) if isinstance(row, (list, dict)) else row
            self.refuses(NoRow, row)
            self.assertEqual(row, before)

    def test_a_name_that_is_none(self):
        for name in ["", "A", "T", "t1", "1", "abcdefghi", "t,", "t;", "tT", "-", "_", "t\n", "\nt", "t\t", "'t'",
                     "a" * 60]:
            self.refuses(NoText, f"table {name} 5")
            self.refuses(NoText, f"table {name} ")

    def test_rows_that_are_none_for_a_table(self):
        for text in NO_ROWS:
            self.refuses(NoText, f"table t {text}")
            self.refuses(NoText, f"table gone {text}")

    def test_two_spaces(self):
        for row in ["table  t 5", "table t  5", "table t 5 ", "table  ", "table   ", "table t  ", "table  5",
                    "ask  t A B", "count  t A B", "shape t  A B", "bound t A B ", "ask  ", "shape  "]:
            self.refuses(NoText, row)

    def test_a_question_that_is_none(self):
        for word in ASKING:
            for text in NO_QUESTIONS:
                self.refuses(NoText, f"{word} {text}")

    def test_a_question_that_is_none_ahead_of_its_tables(self):
        for word in ASKING:
            for text in ["gone A, t A A", "gone A, t", "t A, t A a", "u A B, t A,", "gone A, u B, t A B C D E"]:
                self.refuses(NoText, f"{word} {text}")

    def test_no_table(self):
        for word in ["ask", "count", "bound"]:
            for text in ["gone A", "gone A B C D", "t A B, gone A", "gone A, t A B", "tt A B", "none A, gone A",
                         "gone A B, gone B C, gone C A"]:
                self.refuses(NoTable, f"{word} {text}")

    def test_no_width(self):
        for word in ["ask", "count", "bound"]:
            for text in ["t A", "t A B C", "u A B", "u A, t A", "t A B, u A B", "t A B, t A", "none A, u A B",
                         "t A B, t B C, u C A"]:
                self.refuses(NoWidth, f"{word} {text}")

    def test_the_first_pattern_at_fault_decides(self):
        for word in ["ask", "count", "bound"]:
            self.refuses(NoTable, f"{word} gone A, t A")
            self.refuses(NoWidth, f"{word} t A, gone A")
            self.refuses(NoTable, f"{word} t A B, u A, gone A, u A B")
            self.refuses(NoWidth, f"{word} t A B, u A, u A B, gone A")

    def test_shape_is_not_refused_for_tables(self):
        self.says("shape gone A, t A", "tree")
        self.says("shape t A, gone A B C", "tree")
        self.says("shape u A B, gone B C, t C A", "core")

    def test_at_an_empty_desk(self):
        desk = Desk()
        for word in ["ask", "count", "bound"]:
            refused_with(self, NoTable, lambda: desk.say(f"{word} t A"))
        refused_with(self, NoText, lambda: desk.say("table t 01"))
        refused_with(self, NoRow, lambda: desk.say("table t"))
        refused_with(self, NoTable, lambda: desk.say("ask t A"))
        self.assertEqual(desk.say("shape t A"), "tree")
        refused_with(self, NoTable, lambda: desk.say("ask t A"))


class Desks(unittest.TestCase):
    def test_two_beside_each_other(self):
        one, two = Desk(), Desk()
        self.assertEqual(one.say("table t 1; 2"), "ok")
        refused_with(self, NoTable, lambda: two.say("ask t A"))
        self.assertEqual(two.say("table t 3 4"), "ok")
        self.assertEqual(one.say("ask t A"), "1; 2")
        self.assertEqual(two.say("ask t A B"), "3 4")
        self.assertEqual(one.say("table u 5"), "ok")
        refused_with(self, NoTable, lambda: two.say("count u A"))
        refused_with(self, NoTable, lambda: Desk().say("ask t A"))
        self.assertEqual(one.say("table t "), "ok")
        self.assertEqual(two.say("count t A B"), "1")

    def test_the_same_rows_are_answered_alike(self):
        rows = ["table t 1 2; 2 1; 1 1", "ask t A B, t B C, t C A", "count t A B, t B C", "bound t A B, t B C, t C A",
                "shape t A B, t B C, t C A", "ask t B A"]
        one, two = Desk(), Desk()
        self.assertEqual([one.say(row) for row in rows], [two.say(row) for row in rows])
        self.assertEqual([one.say(row) for row in rows], [two.say(row) for row in rows])

    def test_drawn_questions(self):
        draw = source(61)
        kinds = {"tree": 0, "core": 0}
        for turn in range(200):
            shape = drawn_shape(draw, draw.randint(1, 6), draw.choice(["ABCDEF", "ABCD"]))
            rows = drawn_rows(draw, shape, draw.choice([4, 12, 30]), draw.choice([[0, 1], [-1, 0, 1]]))
            names = ["abcdef"[i] for i in range(len(shape))]
            desk = Desk()
            for name, table in zip(names, rows):
                mixed = draw.sample(table, len(table)) + table[:2]
                self.assertEqual(desk.say(f"table {name} {show_rows(mixed)}"), "ok")
            question = show_question(list(zip(names, shape)))
            plain = answers_by_trial(shape, rows)
            self.assertEqual(desk.say(f"ask {question}"), show_rows(plain))
            self.assertEqual(desk.say(f"count {question}"), str(len(plain)))
            d, product = bound(shape, rows)
            self.assertEqual(desk.say(f"bound {question}"), f"{d} {product}")
            kind = desk.say(f"shape {question}")
            self.assertEqual(kind, apart(shape)[0])
            kinds[kind] += 1
        self.assertGreater(min(kinds.values()), 20)

    def test_ask_as_the_plain_answers(self):
        desk = Desk()
        desk.say("table t 0 1; 0 2; 1 2; 1 3; 2 3")
        rows = [[(0, 1), (0, 2), (1, 2), (1, 3), (2, 3)]] * 3
        self.assertEqual(desk.say("ask t A B, t B C, t A C"), show_rows(answers(pattern_list("AB BC AC"), rows)))
        self.assertEqual(desk.say("count t A B, t B C, t A C"), "2")


if __name__ == "__main__":
    unittest.main()
