import copy
import itertools
import unittest

from helpers import (BIG, TREE_SHAPES, all_parents, answers_by_trial, drawn_rows, drawn_tree_shape, in_order_of,
                     pattern_list, refused_with, some_trees, source, trees_of, walk_beneath)
from joinwood.counts import count, nth, place, walk
from joinwood.errors import NoAnswer
from joinwood.questions import answers, rows_of, shape_of
from joinwood.trees import apart

FAR = 10 ** 5000


class Walks(unittest.TestCase):
    def test_one_pattern(self):
        self.assertEqual(walk([None]), [0])

    def test_chains(self):
        self.assertEqual(walk([None, 0, 1, 2, 3, 4]), [0, 1, 2, 3, 4, 5])
        self.assertEqual(walk([1, 2, 3, 4, 5, None]), [5, 4, 3, 2, 1, 0])
        self.assertEqual(walk([2, None, 3, 1]), [1, 3, 2, 0])

    def test_stars(self):
        self.assertEqual(walk([None, 0, 0, 0, 0, 0]), [0, 1, 2, 3, 4, 5])
        self.assertEqual(walk([3, 3, 3, None, 3, 3]), [3, 0, 1, 2, 4, 5])
        self.assertEqual(walk([2, 2, None]), [2, 0, 1])

    def test_all_that_hangs_beneath_a_child_comes_ahead_of_the_next_child(self):
        self.assertEqual(walk([None, 0, 0, 1, 2, 1]), [0, 1, 3, 5, 2, 4])
        self.assertEqual(walk([None, 0, 0, 2, 2, 1]), [0, 1, 5, 2, 3, 4])
        self.assertEqual(walk([3, 0, 3, None, 0, 2]), [3, 0, 1, 4, 2, 5])

    def test_the_child_with_the_least_number_comes_first_whatever_hangs_beneath_it(self):
        self.assertEqual(walk([3, None, 1, 1, 2]), [1, 2, 4, 3, 0])
        self.assertEqual(walk([2, None, 1, 1, 0, 3]), [1, 2, 0, 4, 3, 5])

    def test_all_trees_of_up_to_six(self):
        for size in range(1, 7):
            for parents in all_parents(size):
                self.assertEqual(walk(parents), walk_beneath(parents, parents.index(None)), parents)

    def test_somewhat_beyond_six(self):
        self.assertEqual(walk([None] + list(range(39))), list(range(40)))
        self.assertEqual(walk([7, 7, 7, 0, 0, 1, 1, None]), [7, 0, 3, 4, 1, 5, 6, 2])

    def test_a_list_of_ones_own(self):
        parents = [1, None]
        told = walk(parents)
        self.assertIs(type(told), list)
        told.clear()
        self.assertEqual(parents, [1, None])
        self.assertEqual(walk(parents), [1, 0])


class ByTrees(unittest.TestCase):
    def hold_against(self, shape, rows, parents, plain):
        """Holds count, nth and place, at every place and beside them, against the plain list."""
        before = copy.deepcopy((shape, rows, parents))
        ordered = in_order_of(shape, parents, plain)
        total = count(shape, rows, parents)
        self.assertIs(type(total), int)
        self.assertEqual(total, len(plain), before)
        told = [nth(shape, rows, parents, n) for n in range(total)]
        self.assertEqual(told, ordered, before)
        self.assertEqual({type(answer) for answer in told} - {tuple}, set())
        places = [place(shape, rows, parents, answer) for answer in ordered]
        self.assertEqual(places, list(range(total)), before)
        for n in [-1, -2, -total, -total - 1, total, total + 1, -FAR, FAR]:
            if not 0 <= n < total:
                refused_with(self, NoAnswer, lambda: nth(shape, rows, parents, n))
        self.assertEqual((shape, rows, parents), before)

    def hold_by(self, trees, shape, rows):
        """How many answers there are, by each of the trees and the one that apart tells."""
        plain = answers(shape, rows)
        for parents in [apart(shape)[1]] + trees:
            self.hold_against(shape, rows, parents, plain)
        return len(plain)

    def hold_by_all_trees(self, shape, rows):
        return self.hold_by(trees_of(shape), shape, rows)


class Orders(ByTrees):
    shape = pattern_list("AB BC")
    rows = [[(1, 2), (2, 1), (3, 1)], [(1, 5), (1, 6), (2, 4)]]

    def told_by(self, shape, rows, parents):
        return [nth(shape, rows, parents, n) for n in range(count(shape, rows, parents))]

    def test_the_root_s_rows_come_first(self):
        by_first = [(1, 2, 4), (2, 1, 5), (2, 1, 6), (3, 1, 5), (3, 1, 6)]
        by_second = [(2, 1, 5), (3, 1, 5), (2, 1, 6), (3, 1, 6), (1, 2, 4)]
        self.assertEqual(self.told_by(self.shape, self.rows, [None, 0]), by_first)
        self.assertEqual(self.told_by(self.shape, self.rows, [1, None]), by_second)

    def test_rows_are_less_by_the_pattern_s_own_order_of_letters(self):
        rows = [[(1, 9), (2, 7), (2, 8)]]
        self.assertEqual(self.told_by([("B", "A")], rows, [None]), [(9, 1), (7, 2), (8, 2)])

    def test_rows_are_less_as_numbers(self):
        rows = [[(-BIG,), (-10,), (-9,), (2,), (10,), (BIG,)]]
        self.assertEqual(self.told_by([("A",)], rows, [None]), [(-BIG,), (-10,), (-9,), (2,), (10,), (BIG,)])

    def test_the_child_with_the_least_number_leads(self):
        shape = pattern_list("B A C")
        rows = [[(0,), (1,)]] * 3
        plain = list(itertools.product([0, 1], repeat=3))
        self.assertEqual(self.told_by(shape, rows, [2, 2, None]), sorted(plain, key=lambda a: (a[2], a[1], a[0])))
        self.assertEqual(self.told_by(shape, rows, [1, None, 0]), sorted(plain, key=lambda a: (a[0], a[1], a[2])))
        self.assertEqual(self.told_by(shape, rows, [1, None, 1]), sorted(plain, key=lambda a: (a[0], a[1], a[2])))
        self.assertEqual(self.told_by(shape, rows, [2, 0, None]), sorted(plain, key=lambda a: (a[2], a[1], a[0])))

    def test_what_hangs_beneath_the_first_child_leads_the_second_child(self):
        shape = pattern_list("D A B C")
        rows = [[(0,), (1,)]] * 4
        plain = list(itertools.product([0, 1], repeat=4))
        self.assertEqual(self.told_by(shape, rows, [None, 0, 0, 1]),
                         sorted(plain, key=lambda a: (a[3], a[0], a[2], a[1])))


class CountedAndPlaced(ByTrees):
    def test_one_pattern(self):
        self.hold_against([("A",)], [[(-3,), (5,), (8,)]], [None], [(-3,), (5,), (8,)])
        self.hold_against([("A",)], [[]], [None], [])
        self.hold_against([("B", "A")], [[(1, 2), (2, 1)]], [None], [(1, 2), (2, 1)])

    def test_no_answers(self):
        rows = [[(0, 0)], [(0, 0), (1, 1)], [(1, 1)]]
        self.assertEqual(self.hold_by_all_trees(pattern_list("AB BC CD"), rows), 0)
        self.assertEqual(self.hold_by_all_trees(pattern_list("AB CD EF"), [[(0, 0)], [], [(1, 1)]]), 0)

    def test_patterns_that_share_no_letter(self):
        rows = [[(1,), (2,)], [(5, 6), (7, 8), (7, 9)], [(0,), (3,)]]
        self.assertEqual(self.hold_by_all_trees(pattern_list("B CA D"), rows), 12)

    def test_through_the_tables(self):
        tables = {"knows": [(2, 3), (1, 2), (1, 2), (3, 1)], "likes": [(3, 3), (2, 1), (3, 5)]}
        question = [("knows", ("A", "B")), ("knows", ("B", "C")), ("likes", ("B", "D"))]
        self.assertEqual(self.hold_by_all_trees(shape_of(question), rows_of(tables, question)), 3)

    def test_below_0_and_many_figures(self):
        rows = [[(-BIG, -1), (-2, BIG), (-1, BIG), (BIG, 0)], [(-1, -BIG), (-1, BIG), (BIG, 0)], [(-1,), (BIG,)]]
        self.assertEqual(self.hold_by_all_trees(pattern_list("AB BC B"), rows), 4)
        near = [[(BIG,), (BIG + 1,)], [(BIG - 1,), (BIG,)]]
        self.assertEqual(self.hold_by_all_trees(pattern_list("A A"), near), 1)

    def test_small_shapes_by_all_their_trees(self):
        draw = source(11)
        found = 0
        for text in TREE_SHAPES:
            shape = pattern_list(text)
            for turn in range(4):
                rows = drawn_rows(draw, shape, 8, [-1, 0, 1])
                self.assertEqual(answers(shape, rows), answers_by_trial(shape, rows))
                found += self.hold_by(some_trees(draw, shape, 30), shape, rows)
        self.assertGreater(found, 200)

    def test_drawn_shapes_by_drawn_trees(self):
        draw = source(12)
        counts = {"none": 0, "one": 0, "many": 0}
        for turn in range(250):
            shape = drawn_tree_shape(draw, draw.randint(1, 6))
            rows = drawn_rows(draw, shape, draw.choice([3, 6]), draw.choice([[0, 1], [-1, 0, BIG]]))
            total = self.hold_by(some_trees(draw, shape, 4), shape, rows)
            counts["none" if not total else "one" if total == 1 else "many"] += 1
        self.assertTrue(min(counts.values()) > 10, counts)

    def test_the_same_answers_by_whatever_tree(self):
        shape = pattern_list("AB BC CD BE BCF C")
        choices = [itertools.product([0, 1, 2], repeat=len(letters)) for letters in shape]
        rows = [[row for row in table if sum(row) % 3 != 2] for table in choices]
        plain = answers(shape, rows)
        self.assertGreater(len(plain), 3)
        trees = trees_of(shape)
        self.assertGreater(len(trees), 20)
        for parents in trees:
            told = [nth(shape, rows, parents, n) for n in range(count(shape, rows, parents))]
            self.assertEqual(sorted(told), plain, parents)


class NoAnswers(ByTrees):
    def no_place(self, shape, rows, parents, cells):
        before = copy.deepcopy((shape, rows, parents))
        refused_with(self, NoAnswer, lambda: place(shape, rows, parents, cells))
        self.assertEqual((shape, rows, parents), before)

    def test_places_at_the_edges(self):
        shape, rows, parents = pattern_list("AB BC"), Orders.rows, [1, None]
        self.assertEqual(nth(shape, rows, parents, 0), (2, 1, 5))
        self.assertEqual(nth(shape, rows, parents, 4), (1, 2, 4))
        for n in [-1, 5, -5, 6, -BIG, BIG, -FAR, FAR]:
            refused_with(self, NoAnswer, lambda: nth(shape, rows, parents, n))

    def test_where_there_is_no_answer_there_is_none_at_0(self):
        for shape, rows in [([("A",)], [[]]), (pattern_list("A A"), [[(1,)], [(2,)]]),
                            (pattern_list("A B"), [[(1,)], []]), (pattern_list("A B"), [[], [(1,)]])]:
            for parents in trees_of(shape):
                for n in [-1, 0, 1]:
                    refused_with(self, NoAnswer, lambda: nth(shape, rows, parents, n))
                for cells in [(), (1,), (2,), (1, 1)]:
                    self.no_place(shape, rows, parents, cells)

    def test_tuples_of_another_count(self):
        shape, rows, parents = pattern_list("AB BC"), Orders.rows, [None, 0]
        for cells in [(), (1,), (1, 2), (1, 2, 4, 4), (1, 2, 4, 0), (0, 1, 2, 4), (1, 2, 4) * 2, (1,) * 100]:
            self.no_place(shape, rows, parents, cells)

    def test_tuples_of_the_right_count(self):
        shape, rows, parents = pattern_list("AB BC"), Orders.rows, [None, 0]
        for cells in [(1, 2, 5), (1, 1, 5), (2, 2, 4), (4, 2, 1), (0, 0, 0), (-1, 2, 4), (BIG, 2, 4), (1, 2, FAR)]:
            self.no_place(shape, rows, parents, cells)

    def test_cells_in_the_order_of_the_walk_or_of_a_pattern_are_none(self):
        shape, rows = pattern_list("CB BA"), [[(1, 2)], [(2, 3)]]
        for parents in [[None, 0], [1, None]]:
            self.assertEqual(place(shape, rows, parents, (3, 2, 1)), 0)
            self.no_place(shape, rows, parents, (1, 2, 3))

    def test_one_cell_exchanged_or_more_or_less(self):
        draw = source(14)
        refused = 0
        for turn in range(60):
            shape = drawn_tree_shape(draw, draw.randint(1, 5))
            rows = drawn_rows(draw, shape, 8, [0, 1, 2])
            plain = answers(shape, rows)
            parents = some_trees(draw, shape, 1)[0]
            ordered = in_order_of(shape, parents, plain)
            for answer in draw.sample(plain, min(5, len(plain))):
                for at, cell in itertools.product(range(len(answer)), [-1, 0, 1, 2, 3]):
                    other = answer[:at] + (cell,) + answer[at + 1:]
                    if other in plain:
                        self.assertEqual(place(shape, rows, parents, other), ordered.index(other))
                    else:
                        self.no_place(shape, rows, parents, other)
                        refused += 1
                    self.no_place(shape, rows, parents, answer[:at] + (cell,) + answer[at:])
                    self.no_place(shape, rows, parents, answer[:at] + answer[at + 1:])
                self.no_place(shape, rows, parents, ())
        self.assertGreater(refused, 300)


class MoreThanCanBeListed(unittest.TestCase):
    """Mixed figures: where every choice of cells is an answer, an answer's place is a number written in them."""

    def number(self, figures, bases):
        place_so_far = 0
        for figure, base in zip(figures, bases):
            place_so_far = place_so_far * base + figure
        return place_so_far

    def hold_drawn_places(self, shape, rows, parents, letters, cells, seed):
        """letters: in the order in which they tell the place; cells: those that each of them can have."""
        bases = [len(cells[letter]) for letter in letters]
        total = self.number([1] + [0] * len(bases), [1] + bases)
        self.assertEqual(count(shape, rows, parents), total)
        draw = source(seed)
        choices = [[0] * len(bases), [base - 1 for base in bases]]
        choices += [[draw.randrange(base) for base in bases] for turn in range(40)]
        for figures in choices:
            at = {letter: cells[letter][figure] for letter, figure in zip(letters, figures)}
            answer = tuple(at[letter] for letter in sorted(letters))
            self.assertEqual(nth(shape, rows, parents, self.number(figures, bases)), answer)
            self.assertEqual(place(shape, rows, parents, answer), self.number(figures, bases))
        for n in [-1, total, -total, 10 * total]:
            refused_with(self, NoAnswer, lambda: nth(shape, rows, parents, n))
        refused_with(self, NoAnswer, lambda: place(shape, rows, parents, (FAR,) * len(letters)))

    def test_six_patterns_of_sixty_rows_that_share_no_letter(self):
        cells = {letter: [i * 7 - 200 for i in range(60)] for letter in "ABCDEF"}
        rows = [[(cell,) for cell in cells["A"]]] * 6
        self.assertEqual(count(pattern_list("A B C D E F"), rows, [None, 0, 0, 0, 0, 0]), 60 ** 6)
        for text, parents, letters in [("A B C D E F", [None, 0, 0, 0, 0, 0], "ABCDEF"),
                                       ("A B C D E F", [1, 2, 3, 4, 5, None], "FEDCBA"),
                                       ("F B A E C D", [3, 0, 3, None, 0, 2], "EFBCAD"),
                                       ("C A B F E D", [2, None, 1, 1, 0, 3], "ABCEFD")]:
            self.hold_drawn_places(pattern_list(text), rows, parents, letters, cells, 15)

    def test_cells_of_sixty_figures_either_side_of_0(self):
        line = list(range(-BIG, -BIG + 30)) + list(range(BIG - 29, BIG + 1))
        cells = {letter: line for letter in "ABCDEF"}
        rows = [[(cell,) for cell in line]] * 6
        self.hold_drawn_places(pattern_list("F E D C B A"), rows, [1, 2, None, 2, 3, 3], "DEFCBA", cells, 16)

    def test_a_chain_of_patterns_that_hold_every_pair(self):
        cells = {letter: list(range(7 + i % 2)) for i, letter in enumerate("ABCDEF")}
        shape = pattern_list("AB BC CD DE EF")
        rows = [sorted(itertools.product(cells[one], cells[two])) for one, two in shape]
        self.hold_drawn_places(shape, rows, [None, 0, 1, 2, 3], "ABCDEF", cells, 17)
        self.hold_drawn_places(shape, rows, [1, 2, None, 2, 3], "CDBAEF", cells, 18)

    def test_a_star_round_one_letter(self):
        cells = {letter: list(range(60)) for letter in "ABCDE"}
        cells["F"] = [-1]
        rows = [[(cell, -1) for cell in range(60)]] * 5 + [[(-2,), (-1,)]]
        self.hold_drawn_places(pattern_list("AF BF CF DF EF F"), rows, [5, 5, 5, 5, 5, None], "FABCDE", cells, 19)

    def test_no_answer_of_very_many_that_nearly_are(self):
        line = [(cell,) for cell in range(60)]
        shape = pattern_list("A B C D E F")
        self.assertEqual(count(shape, [line] * 5 + [[]], [None, 0, 0, 0, 0, 0]), 0)
        self.assertEqual(count(shape, [line] * 5 + [[]], [5, 0, 1, 2, 3, None]), 0)

    def test_somewhat_beyond_the_bounds(self):
        letters = "ABCDEFGH"
        cells = {letter: list(range(80)) for letter in letters}
        rows = [[(cell,) for cell in range(80)]] * 8
        self.hold_drawn_places([(letter,) for letter in letters], rows, [None] + list(range(7)), letters, cells, 20)


if __name__ == "__main__":
    unittest.main()
