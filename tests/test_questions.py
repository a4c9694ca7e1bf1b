import copy
import itertools
import unittest

from helpers import BIG, answers_by_trial, drawn_rows, drawn_shape, pattern_list, refused_with, source
from joinwood.errors import NoTable, NoWidth
from joinwood.questions import answers, letters_of, rows_of, shape_of


class Shapes(unittest.TestCase):
    def test_the_letters_of_the_patterns_in_their_order(self):
        question = [("knows", ("B", "A")), ("likes", ("A", "C")), ("b", ("Z",))]
        self.assertEqual(shape_of(question), [("B", "A"), ("A", "C"), ("Z",)])

    def test_one_pattern(self):
        self.assertEqual(shape_of([("t", ("D", "A", "C", "B"))]), [("D", "A", "C", "B")])

    def test_a_table_that_comes_more_than_once(self):
        question = [("t", ("A", "B")), ("t", ("B", "C")), ("t", ("A", "B"))]
        self.assertEqual(shape_of(question), [("A", "B"), ("B", "C"), ("A", "B")])

    def test_kinds_and_a_list_of_ones_own(self):
        question = [("t", ("A", "B")), ("u", ("B",))]
        before = copy.deepcopy(question)
        shape = shape_of(question)
        self.assertIs(type(shape), list)
        self.assertEqual([type(letters) for letters in shape], [tuple, tuple])
        shape.append(("C",))
        shape[0] = ("X",)
        self.assertEqual(question, before)
        self.assertEqual(shape_of(question), [("A", "B"), ("B",)])

    def test_letters_by_the_alphabet_each_once(self):
        self.assertEqual(letters_of(pattern_list("ZA")), ["A", "Z"])
        self.assertEqual(letters_of(pattern_list("CB BA AC C")), ["A", "B", "C"])
        self.assertEqual(letters_of(pattern_list("Q")), ["Q"])
        self.assertEqual(letters_of(pattern_list("FEDC BA CF")), ["A", "B", "C", "D", "E", "F"])

    def test_letters_in_whatever_order_the_patterns_have_them(self):
        for letters in itertools.permutations("MADE"):
            self.assertEqual(letters_of([letters]), ["A", "D", "E", "M"])

    def test_letters_leave_the_shape_as_it_was(self):
        shape = pattern_list("CB BA")
        letters = letters_of(shape)
        self.assertIs(type(letters), list)
        letters.clear()
        self.assertEqual(shape, pattern_list("CB BA"))
        self.assertEqual(letters_of(shape), ["A", "B", "C"])


class Rows(unittest.TestCase):
    def refused_with(self, refusal, tables, question):
        before = copy.deepcopy((tables, question))
        refused_with(self, refusal, lambda: rows_of(tables, question))
        self.assertEqual((tables, question), before)

    def test_in_order_and_each_once(self):
        tables = {"t": [(2, 1), (1, 9), (2, 1), (-3, 0), (1, -9), (10, 0), (1, 9)]}
        self.assertEqual(rows_of(tables, [("t", ("A", "B"))]), [[(-3, 0), (1, -9), (1, 9), (2, 1), (10, 0)]])

    def test_any_order_tells_the_same(self):
        for table in itertools.permutations([(3,), (1,), (2,), (1,)]):
            self.assertEqual(rows_of({"t": list(table)}, [("t", ("A",))]), [[(1,), (2,), (3,)]])

    def test_pattern_by_pattern(self):
        tables = {"a": [(1,)], "b": [(2, 3)], "c": [(4, 5, 6, 7)]}
        question = [("c", tuple("BADC")), ("a", ("B",)), ("b", ("C", "A"))]
        self.assertEqual(rows_of(tables, question), [[(4, 5, 6, 7)], [(1,)], [(2, 3)]])

    def test_cells_stay_in_the_rows_order_whatever_the_letters(self):
        tables = {"t": [(1, 2), (0, 3)]}
        self.assertEqual(rows_of(tables, [("t", ("B", "A"))]), [[(0, 3), (1, 2)]])

    def test_a_table_more_than_once_has_a_list_for_each_pattern(self):
        tables = {"t": [(2, 2), (1, 1)]}
        rows = rows_of(tables, [("t", ("A", "B")), ("t", ("B", "C"))])
        self.assertEqual(rows, [[(1, 1), (2, 2)], [(1, 1), (2, 2)]])
        rows[0].clear()
        self.assertEqual(rows[1], [(1, 1), (2, 2)])

    def test_a_table_of_no_rows_fits_any_width(self):
        tables = {"none": [], "t": [(1,)]}
        for letters in ("A", "AB", "ABC", "ABCD"):
            self.assertEqual(rows_of(tables, [("none", tuple(letters)), ("t", ("A",))]), [[], [(1,)]])

    def test_many_figures_and_below_0(self):
        tables = {"t": [(BIG,), (-BIG,), (0,), (BIG - 1,)]}
        self.assertEqual(rows_of(tables, [("t", ("A",))]), [[(-BIG,), (0,), (BIG - 1,), (BIG,)]])

    def test_tables_that_are_not_asked_do_not_matter(self):
        tables = {"t": [(1,)], "odd": [(1,), (1, 2)]}
        self.assertEqual(rows_of(tables, [("t", ("A",))]), [[(1,)]])

    def test_no_table(self):
        self.refused_with(NoTable, {}, [("t", ("A",))])
        self.refused_with(NoTable, {"tt": [(1,)]}, [("t", ("A",))])
        self.refused_with(NoTable, {"t": [(1,)]}, [("t", ("A",)), ("u", ("A",))])

    def test_no_width(self):
        self.refused_with(NoWidth, {"t": [(1, 2)]}, [("t", ("A",))])
        self.refused_with(NoWidth, {"t": [(1,)]}, [("t", ("A", "B"))])
        self.refused_with(NoWidth, {"t": [(1, 2, 3, 4, 5)]}, [("t", tuple("ABCD"))])
        self.refused_with(NoWidth, {"t": [()]}, [("t", ("A",))])
        self.refused_with(NoWidth, {"t": [(1,), (2,)], "u": [(1, 2)]}, [("t", ("A",)), ("u", ("A",))])

    def test_one_row_of_many_is_enough_wherever_it_stands(self):
        good = [(2, 1), (1, 1), (3, 3)]
        for odd in [(1,), (9, 9, 9), ()]:
            for place in range(len(good) + 1):
                self.refused_with(NoWidth, {"t": good[:place] + [odd] + good[place:]}, [("t", ("A", "B"))])

    def test_a_table_of_both_widths_fits_neither(self):
        tables = {"t": [(1,), (1, 2)]}
        self.refused_with(NoWidth, tables, [("t", ("A",))])
        self.refused_with(NoWidth, tables, [("t", ("A", "B"))])

    def test_a_table_that_comes_twice_with_unlike_widths(self):
        self.refused_with(NoWidth, {"t": [(1, 2)]}, [("t", ("A", "B")), ("t", ("A",))])

    def test_the_first_pattern_at_fault_decides(self):
        tables = {"good": [(1,)], "wide": [(1, 2)]}
        good, wide, gone = ("good", ("A",)), ("wide", ("B",)), ("gone", ("C",))
        self.refused_with(NoWidth, tables, [wide, gone])
        self.refused_with(NoTable, tables, [gone, wide])
        self.refused_with(NoWidth, tables, [good, wide, good, gone])
        self.refused_with(NoTable, tables, [good, good, gone, wide])

    def test_what_is_handed_in_stays_and_what_is_given_is_ones_own(self):
        tables = {"t": [(2, 1), (1, 2), (2, 1)], "u": [(1,)]}
        question = [("t", ("A", "B")), ("u", ("B",)), ("t", ("B", "C"))]
        before = copy.deepcopy((tables, question))
        rows = rows_of(tables, question)
        self.assertEqual((tables, question), before)
        self.assertEqual([type(rows)] + [type(table) for table in rows], [list] * 4)
        for table in rows:
            table.append((7, 7))
        rows.pop()
        self.assertEqual((tables, question), before)
        self.assertEqual(rows_of(tables, question), [[(1, 2), (2, 1)], [(1,)], [(1, 2), (2, 1)]])

    def test_a_table_in_order_is_not_handed_back_itself(self):
        tables = {"t": [(1,), (2,)]}
        rows = rows_of(tables, [("t", ("A",))])
        self.assertIsNot(rows[0], tables["t"])
        tables["t"].append((3,))
        self.assertEqual(rows, [[(1,), (2,)]])


class Answers(unittest.TestCase):
    def same_as_by_trial(self, shape, rows):
        before = copy.deepcopy((shape, rows))
        told = answers(shape, rows)
        self.assertEqual(told, answers_by_trial(shape, rows), (shape, rows))
        self.assertEqual((shape, rows), before)
        return told

    def test_one_pattern(self):
        self.assertEqual(answers([("A",)], [[(1,), (2,)]]), [(1,), (2,)])
        self.assertEqual(answers([("A",)], [[]]), [])

    def test_cells_stand_by_the_alphabet(self):
        self.assertEqual(answers([("B", "A")], [[(1, 9), (2, 8)]]), [(8, 2), (9, 1)])
        self.assertEqual(answers([tuple("DBCA")], [[(4, 2, 3, 1)]]), [(1, 2, 3, 4)])

    def test_a_path(self):
        rows = [[(1, 2), (3, 4), (5, 2)], [(2, 7), (2, 8), (9, 9)]]
        told = [(1, 2, 7), (1, 2, 8), (5, 2, 7), (5, 2, 8)]
        self.assertEqual(answers(pattern_list("AB BC"), rows), told)

    def test_no_answers_though_each_two_patterns_agree(self):
        rows = [[(0, 0), (1, 1)], [(0, 0), (1, 1)], [(0, 1), (1, 0)]]
        self.assertEqual(answers(pattern_list("AB BC AC"), rows), [])

    def test_a_triangle(self):
        pairs = [(0, 1), (0, 2), (1, 2), (1, 3), (2, 3)]
        self.assertEqual(answers(pattern_list("AB BC AC"), [pairs] * 3), [(0, 1, 2), (1, 2, 3)])

    def test_one_answer(self):
        self.assertEqual(answers(pattern_list("AB BA"), [[(1, 2), (3, 3)], [(1, 2), (3, 3)]]), [(3, 3)])

    def test_patterns_alike_and_one_within_another(self):
        rows = [[(1, 1), (1, 2), (2, 2)], [(1, 2), (2, 2), (3, 3)], [(2,), (4,)]]
        self.assertEqual(answers(pattern_list("AB AB A"), rows), [(2, 2)])

    def test_patterns_that_share_no_letter(self):
        rows = [[(1,), (2,)], [(5, 6), (7, 8)]]
        self.assertEqual(answers(pattern_list("B CA"), rows), [(6, 1, 5), (6, 2, 5), (8, 1, 7), (8, 2, 7)])
        self.assertEqual(answers(pattern_list("B CA"), [[(1,), (2,)], []]), [])
        self.assertEqual(answers(pattern_list("B CA"), [[], [(5, 6)]]), [])

    def test_below_0_and_many_figures(self):
        rows = [[(-BIG, -1), (-2, BIG), (-1, BIG), (BIG, 0)], [(-1,), (BIG,)]]
        told = [(-BIG, -1), (-2, BIG), (-1, BIG)]
        self.assertEqual(answers(pattern_list("AB B"), rows), told)
        near = [[(BIG,), (BIG + 1,)], [(BIG - 1,), (BIG,)]]
        self.assertEqual(answers(pattern_list("A A"), near), [(BIG,)])

    def test_order_is_that_of_numbers_not_of_texts(self):
        rows = [[(-10,), (-9,), (2,), (10,)]]
        self.assertEqual(answers([("A",)], rows), [(-10,), (-9,), (2,), (10,)])

    def test_many_answers(self):
        line = [(i,) for i in range(10)]
        told = answers(pattern_list("D B A C"), [line] * 4)
        self.assertEqual(told, list(itertools.product(range(10), repeat=4)))

    def test_a_list_of_ones_own(self):
        shape = [("A",)]
        rows = [[(1,), (2,)]]
        told = answers(shape, rows)
        self.assertIs(type(told), list)
        self.assertEqual([type(answer) for answer in told], [tuple, tuple])
        self.assertIsNot(told, rows[0])
        told.append((3,))
        self.assertEqual((shape, rows), ([("A",)], [[(1,), (2,)]]))
        self.assertEqual(answers(shape, rows), [(1,), (2,)])

    def test_as_by_trial_over_small_shapes(self):
        texts = ["A", "AB", "BA", "AB BC", "CA BC", "AB BC CA", "AB BC CD DA", "AB BC CA ABC", "A B C", "ABC B",
                 "AB AB", "AB BA", "AB CD", "BD AC CB", "AB AC AD", "DA DB DC AB", "AB BC CA AD BD CD"]
        draw = source(1)
        for text in texts:
            for turn in range(25):
                shape = pattern_list(text)
                self.same_as_by_trial(shape, drawn_rows(draw, shape, 9, [-1, 0, 1, 2]))

    def test_as_by_trial_over_drawn_shapes(self):
        draw = source(2)
        counts = {"none": 0, "one": 0, "many": 0}
        for turn in range(500):
            shape = drawn_shape(draw, draw.randint(1, 6))
            rows = drawn_rows(draw, shape, draw.choice([6, 20, 60]), draw.choice([[0, 1], [-1, 0, BIG]]))
            told = self.same_as_by_trial(shape, rows)
            counts["none" if not told else "one" if len(told) == 1 else "many"] += 1
        self.assertTrue(min(counts.values()) > 5, counts)

    def test_through_the_tables(self):
        tables = {"knows": [(2, 3), (1, 2), (1, 2), (3, 1)], "likes": [(3, 3), (2, 1)]}
        question = [("knows", ("A", "B")), ("knows", ("B", "C")), ("likes", ("B", "D"))]
        told = answers(shape_of(question), rows_of(tables, question))
        self.assertEqual(told, [(1, 2, 3, 1), (2, 3, 1, 3)])


class FewAnswersOfLargeTables(unittest.TestCase):
    """Each would run on for hours if rows were only laid together in the order of the patterns or the letters."""

    line = [(i,) for i in range(60)]
    pairs = [(i, i) for i in range(60)]

    def test_letters_that_meet_only_in_the_last(self):
        told = answers(pattern_list("AF BF CF DF EF"), [self.pairs] * 5)
        self.assertEqual(told, [(i,) * 6 for i in range(60)])

    def test_the_last_pattern_has_no_row(self):
        self.assertEqual(answers(pattern_list("A B C D E F"), [self.line] * 5 + [[]]), [])

    def test_the_last_pattern_holds_the_others(self):
        rows = [self.line] * 4 + [[(1, 2, 3, 4)]]
        self.assertEqual(answers(pattern_list("A B C D ABCD"), rows), [(1, 2, 3, 4)])

    def test_a_ring_without_answers_and_much_beside_it(self):
        ring = [[(i, i) for i in range(2)], [(i, i) for i in range(2)], [(i, 1 - i) for i in range(2)]]
        beside = [(i // 30, i) for i in range(60)]
        self.assertEqual(answers(pattern_list("DA EB FC DE EF DF"), [[(c, d) for d, c in beside]] * 3 + ring), [])
        self.assertEqual(answers(pattern_list("AD BE CF AB BC AC"), [beside] * 3 + ring), [])

    def test_rings_of_sixty_rows(self):
        steps = [(i, (i + 1) % 60) for i in range(60)]
        self.assertEqual(answers(pattern_list("AB BC CD DE EF FA"), [steps] * 6), [])
        back = [(i, (i + 55) % 60) for i in range(60)]
        told = answers(pattern_list("AB BC CD DE EF FA"), [steps] * 5 + [back])
        self.assertEqual(told, sorted(tuple((i + k) % 60 for k in range(6)) for i in range(60)))


if __name__ == "__main__":
    unittest.main()
