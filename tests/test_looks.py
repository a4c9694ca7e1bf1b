import copy
import itertools
import unittest

from helpers import (BIG, TREE_SHAPES, drawn_rows, drawn_tree_shape, pattern_list, row_in, some_trees, source,
                     trees_of)
from joinwood.counts import count
from joinwood.looks import reduced, through
from joinwood.questions import answers, rows_of, shape_of
from joinwood.trees import apart


class Looked(unittest.TestCase):
    def hold_against(self, shape, rows, parents, plain):
        """Holds reduced, and through of each row, against the plain list."""
        before = copy.deepcopy((shape, rows, parents))
        standing = [{row_in(shape, i, answer) for answer in plain} for i in range(len(shape))]
        told = reduced(shape, rows, parents)
        self.assertEqual(told, [[row for row in table if row in kept] for table, kept in zip(rows, standing)], before)
        self.assertEqual(told, [sorted(kept) for kept in standing], before)
        self.assertEqual(reduced(shape, told, parents), told)
        for i, table in enumerate(rows):
            for row in table:
                self.hold_through(shape, rows, parents, i, row, plain)
        self.assertEqual((shape, rows, parents), before)
        return told

    def hold_through(self, shape, rows, parents, i, row, plain):
        having = [answer for answer in plain if row_in(shape, i, answer) == row]
        answer = through(shape, rows, parents, i, row)
        if having:
            self.assertIs(type(answer), tuple)
            self.assertIn(answer, having, (shape, rows, parents, i, row))
        else:
            self.assertIsNone(answer, (shape, rows, parents, i, row))

    def hold_by(self, trees, shape, rows):
        """What is left of the rows by the tree that apart tells; it is the same by each of the trees."""
        plain = answers(shape, rows)
        told = self.hold_against(shape, rows, apart(shape)[1], plain)
        for parents in trees:
            self.assertEqual(self.hold_against(shape, rows, parents, plain), told)
        return told

    def hold_by_all_trees(self, shape, rows):
        return self.hold_by(trees_of(shape), shape, rows)


class LooseRows(Looked):
    def test_one_pattern(self):
        for rows in [[[]], [[(1, 2)]], [[(-BIG, 3), (1, 2), (1, BIG)]]]:
            self.assertEqual(self.hold_by_all_trees([("B", "A")], rows), rows)
        self.assertEqual(through([("B", "A")], [[(1, 2), (3, 4)]], [None], 0, (3, 4)), (4, 3))

    def test_two_patterns(self):
        rows = [[(1, 2), (3, 4), (5, 2)], [(2, 7), (2, 8), (9, 9)]]
        told = self.hold_by_all_trees(pattern_list("AB BC"), rows)
        self.assertEqual(told, [[(1, 2), (5, 2)], [(2, 7), (2, 8)]])
        for parents in [[None, 0], [1, None]]:
            self.assertIn(through(pattern_list("AB BC"), rows, parents, 0, (5, 2)), [(5, 2, 7), (5, 2, 8)])
            self.assertEqual(through(pattern_list("AB BC"), rows, parents, 1, (9, 9)), None)

    def test_a_pattern_without_rows(self):
        pairs = [(0, 0), (1, 1)]
        for text in ["AB BC CD", "AB AC AD", "AB CD EF", "AB AB AB"]:
            for bare in range(3):
                rows = [[] if i == bare else pairs for i in range(3)]
                self.assertEqual(self.hold_by_all_trees(pattern_list(text), rows), [[], [], []])
        self.assertEqual(self.hold_by_all_trees(pattern_list("AB BC CD"), [[], [], []]), [[], [], []])

    def test_no_answer_though_neighbours_agree(self):
        rows = [[(0, 0)], [(0, 0), (1, 1)], [(1, 1)]]
        self.assertEqual(self.hold_by_all_trees(pattern_list("AB BC CD"), rows), [[], [], []])

    def test_rows_loose_through_a_pattern_at_the_far_end(self):
        pairs = [(0, 0), (1, 1), (2, 2)]
        shape = pattern_list("AB BC CD DE")
        for end in [0, 3]:
            rows = [[(1, 1)] if i == end else pairs for i in range(4)]
            self.assertEqual(self.hold_by_all_trees(shape, rows), [[(1, 1)]] * 4)
            for parents in [[None, 0, 1, 2], [1, 2, 3, None], [1, None, 1, 2]]:
                self.assertEqual(reduced(shape, rows, parents), [[(1, 1)]] * 4)

    def test_rows_loose_through_a_pattern_up_and_down_the_tree(self):
        shape = pattern_list("AB AC BD CE")
        rows = [[(0, 0), (1, 1)], [(0, 0), (1, 1)], [(0, 0), (1, 0), (2, 0)], [(0, 5), (0, 6)]]
        told = [[(0, 0)], [(0, 0)], [(0, 0)], [(0, 5), (0, 6)]]
        self.assertEqual(self.hold_by_all_trees(shape, rows), told)
        for parents in [[None, 0, 0, 1], [1, None, 0, 1], [2, 0, None, 1], [1, 3, 0, None]]:
            self.assertEqual(reduced(shape, rows, parents), told)
            self.assertIsNone(through(shape, rows, parents, 2, (1, 0)))
            self.assertEqual(through(shape, rows, parents, 3, (0, 6)), (0, 0, 0, 0, 6))

    def test_a_chain_with_one_answer_in_many_rows(self):
        line = [(i, i + 1) for i in range(60)]
        rows = [line[i:i + 56 - 10 * i] for i in range(5)]
        rows[4] = [(7, 8)]
        told = self.hold_by_all_trees(pattern_list("AB BC CD DE EF"), rows)
        self.assertEqual(told, [[(3, 4)], [(4, 5)], [(5, 6)], [(6, 7)], [(7, 8)]])

    def test_patterns_that_share_no_letter(self):
        rows = [[(1,), (2,)], [(5, 6), (7, 8)], [(0,)]]
        self.assertEqual(self.hold_by_all_trees(pattern_list("B CA D"), rows), rows)

    def test_patterns_alike_and_one_within_another(self):
        rows = [[(1, 1), (1, 2), (2, 2)], [(1, 2), (2, 2), (3, 3)], [(2,), (4,)]]
        self.assertEqual(self.hold_by_all_trees(pattern_list("AB AB A"), rows), [[(2, 2)], [(2, 2)], [(2,)]])
        turned = [[(1, 2), (2, 1), (3, 3), (4, 5)], [(1, 2), (2, 1), (3, 3), (5, 5)]]
        self.assertEqual(self.hold_by_all_trees(pattern_list("AB BA"), turned), [[(1, 2), (2, 1), (3, 3)]] * 2)

    def test_below_0_and_many_figures(self):
        rows = [[(-BIG, -1), (-2, BIG), (-1, BIG), (BIG, 0)], [(-1,), (BIG - 1,), (BIG,)]]
        told = self.hold_by_all_trees(pattern_list("AB B"), rows)
        self.assertEqual(told, [[(-BIG, -1), (-2, BIG), (-1, BIG)], [(-1,), (BIG,)]])

    def test_through_the_tables(self):
        tables = {"knows": [(2, 3), (1, 2), (1, 2), (3, 1)], "likes": [(3, 3), (2, 1)]}
        question = [("knows", ("A", "B")), ("knows", ("B", "C")), ("likes", ("B", "D"))]
        told = self.hold_by_all_trees(shape_of(question), rows_of(tables, question))
        self.assertEqual(told, [[(1, 2), (2, 3)], [(2, 3), (3, 1)], [(2, 1), (3, 3)]])


class AgainstThePlainList(Looked):
    def test_small_shapes_by_all_their_trees(self):
        draw = source(21)
        for text in TREE_SHAPES:
            shape = pattern_list(text)
            for turn in range(6):
                self.hold_by(some_trees(draw, shape, 40), shape, drawn_rows(draw, shape, 6, [-1, 0, 1, 2]))

    def test_drawn_shapes_by_drawn_trees(self):
        draw = source(22)
        counts = {"none": 0, "some": 0, "all": 0}
        for turn in range(400):
            shape = drawn_tree_shape(draw, draw.randint(1, 6))
            rows = drawn_rows(draw, shape, draw.choice([3, 6, 12]), draw.choice([[0, 1], [-1, 0, BIG]]))
            told = self.hold_by(some_trees(draw, shape, 4), shape, rows)
            counts["none" if not told[0] else "all" if told == rows else "some"] += 1
        self.assertTrue(min(counts.values()) > 30, counts)

    def test_what_is_left_has_the_same_answers(self):
        draw = source(23)
        for turn in range(100):
            shape = drawn_tree_shape(draw, draw.randint(1, 5))
            rows = drawn_rows(draw, shape, 8, [0, 1, 2])
            parents = some_trees(draw, shape, 1)[0]
            told = reduced(shape, rows, parents)
            self.assertEqual(answers(shape, told), answers(shape, rows))
            self.assertEqual(count(shape, told, parents), count(shape, rows, parents))


class ListsOfOnesOwn(unittest.TestCase):
    def test_what_is_told_can_be_changed(self):
        shape = pattern_list("AB BC D")
        rows = [[(1, 2), (3, 4)], [(2, 5)], [(6,)]]
        before = copy.deepcopy(rows)
        for parents in [[None, 0, 1], [1, 2, None], [1, None, 0]]:
            tree = list(parents)
            told = reduced(shape, rows, parents)
            self.assertEqual([type(table) for table in [told] + told], [list] * 4)
            for table in told:
                table.append((0,))
            told.clear()
            self.assertEqual((shape, rows, parents), (pattern_list("AB BC D"), before, tree))
            self.assertEqual(reduced(shape, rows, parents), [[(1, 2)], [(2, 5)], [(6,)]])

    def test_where_nothing_is_thrown_out_the_lists_are_new_too(self):
        pairs = [(0, 0), (1, 1)]
        for text in ["AB", "AB BC", "AB CD", "AB BC CD"]:
            shape = pattern_list(text)
            rows = [pairs] * len(shape)
            for parents in trees_of(shape):
                told = reduced(shape, rows, parents)
                self.assertEqual(told, rows)
                for table in told:
                    self.assertIsNot(table, pairs)
                for one, other in itertools.combinations(told, 2):
                    self.assertIsNot(one, other)

    def test_what_was_told_stays_when_what_was_handed_in_is_changed(self):
        shape = pattern_list("AB BC")
        rows = [[(1, 2), (3, 4)], [(2, 5), (4, 6)]]
        parents = [1, None]
        told = reduced(shape, rows, parents)
        answer = through(shape, rows, parents, 0, (1, 2))
        rows[0].clear()
        rows.clear()
        parents.clear()
        shape.clear()
        self.assertEqual(told, [[(1, 2), (3, 4)], [(2, 5), (4, 6)]])
        self.assertEqual(answer, (1, 2, 5))


class MoreThanCanBeListed(unittest.TestCase):
    line = [(i - 30,) for i in range(60)]

    def test_six_patterns_of_sixty_rows_that_share_no_letter(self):
        shape = pattern_list("F B A E C D")
        rows = [self.line] * 6
        for parents in [[None, 0, 0, 0, 0, 0], [1, 2, 3, 4, 5, None], [3, 0, 3, None, 0, 2]]:
            self.assertEqual(reduced(shape, rows, parents), rows)
            for i in range(6):
                for row in [self.line[0], self.line[31], self.line[59]]:
                    answer = through(shape, rows, parents, i, row)
                    self.assertEqual(row_in(shape, i, answer), row)
                    self.assertTrue(all((cell,) in self.line for cell in answer))
                    self.assertEqual(len(answer), 6)

    def test_a_star_with_rows_that_hang_loose(self):
        shape = pattern_list("AF BF CF DF EF F")
        rows = [[(i, i // 30) for i in range(60)]] * 5 + [[(1,), (2,)]]
        told = [[(i, 1) for i in range(30, 60)]] * 5 + [[(1,)]]
        for parents in [[5, 5, 5, 5, 5, None], [None, 0, 1, 2, 3, 4], [1, 2, 3, 4, None, 0]]:
            self.assertEqual(reduced(shape, rows, parents), told)
            self.assertIsNone(through(shape, rows, parents, 2, (29, 0)))
            self.assertIsNone(through(shape, rows, parents, 5, (2,)))
            answer = through(shape, rows, parents, 2, (30, 1))
            self.assertEqual([row_in(shape, i, answer) in told[i] for i in range(6)], [True] * 6)
            self.assertEqual((answer[2], answer[5]), (30, 1))

    def test_somewhat_beyond_the_bounds(self):
        letters = "ABCDEFGHI"
        shape = [tuple(letters[i:i + 2]) for i in range(8)]
        rows = [[(i, j) for i in range(9) for j in range(9)]] * 7 + [[(4, 4)]]
        told = [rows[0]] * 6 + [[(i, 4) for i in range(9)], [(4, 4)]]
        self.assertEqual(reduced(shape, rows, [None] + list(range(7))), told)
        self.assertEqual(reduced(shape, rows, list(range(1, 8)) + [None]), told)


if __name__ == "__main__":
    unittest.main()
