import copy
import itertools
import math
import unittest

from helpers import (TREE_SHAPES, answers_by_trial, drawn_rows, drawn_shape, drawn_tree_shape, letters_in,
                     pattern_list, ring, small_shapes, source)
from joinwood.counts import count
from joinwood.questions import answers
from joinwood.trees import apart
from joinwood.weights import bound, filled, weights

CHAINS = ["A", "AB BC", "AB BC CD", "AB BC CD DE", "AB BC CD DE EF", "BA CB DC", "ABC CDE EF", "A AB BC C"]
STARS = ["AF BF CF", "AB AC AD AE AF", "FA FB FC FD FE F", "ABC ADE AF", "A AB AC"]
WITHIN = ["AB A", "A AB", "ABC AB A", "ABCD BC DA C", "ABC ABC ABC", "AB BA", "AB BC CA ABC", "A A A A A A",
          "AB BC AB BC", "AB BC CA AB BC CA", "ABCD CDEF BC", "A B AB"]
APART = ["A B", "AB CD", "AB CD EF", "A B C D E F", "ABC DEF"]
FANO = "ABCDEFG"
THIRDS = "ABC ABD ACD BCD"


class WeightTests(unittest.TestCase):
    def hold(self, shape):
        """Holds the weights of the shape against all that [12] says of them."""
        before = copy.deepcopy(shape)
        told = weights(shape)
        self.assertEqual(shape, before)
        self.assertIs(type(told), tuple)
        self.assertEqual(len(told), 3)
        d, w, y = told
        letters = letters_in(shape)
        self.assertEqual([type(part) for part in told], [int, list, list], shape)
        self.assertEqual({type(number) for number in w + y}, {int}, shape)
        self.assertEqual((len(w), len(y)), (len(shape), len(letters)))
        self.assertGreaterEqual(d, 1)
        self.assertGreaterEqual(min(w + y), 0, shape)
        for letter in letters:
            self.assertGreaterEqual(sum(n for n, p in zip(w, shape) if letter in p), d, (shape, told))
        price = dict(zip(letters, y))
        for p in shape:
            self.assertLessEqual(sum(price[letter] for letter in p), d, (shape, told))
        self.assertEqual(sum(w), sum(y), (shape, told))
        self.assertEqual(math.gcd(d, *w, *y), 1, (shape, told))
        self.assertEqual(weights(shape), told)
        return told


class Weights(WeightTests):
    def test_one_pattern(self):
        for text in ["A", "Z", "AB", "BA", "CAB", "DBCA"]:
            d, w, y = self.hold(pattern_list(text))
            self.assertEqual(w, [d])
            self.assertEqual(sum(y), d)
        self.assertEqual(weights([("Q",)]), (1, [1], [1]))

    def test_chains(self):
        for text in CHAINS:
            self.hold(pattern_list(text))
        d, w, y = weights(pattern_list("AB BC CD"))
        self.assertEqual(w, [d, 0, d])

    def test_stars(self):
        for text in STARS:
            self.hold(pattern_list(text))
        self.assertEqual(weights(pattern_list("AF BF CF")), (1, [1, 1, 1], [1, 1, 1, 0]))
        self.assertEqual(weights(pattern_list("FA FB FC FD FE F")), (1, [1] * 5 + [0], [1] * 5 + [0]))

    def test_rings(self):
        for size in range(2, 7):
            d, w, y = self.hold(ring(size))
            self.assertEqual(2 * sum(w), size * d)

    def test_rings_of_three_and_five_have_none_over_1(self):
        self.assertEqual(weights(pattern_list("AB BC CA")), (2, [1, 1, 1], [1, 1, 1]))
        self.assertEqual(weights(pattern_list("AB AC BC")), (2, [1, 1, 1], [1, 1, 1]))
        self.assertEqual(weights(pattern_list("QX XM MQ")), (2, [1, 1, 1], [1, 1, 1]))
        self.assertEqual(weights(ring(5)), (2, [1] * 5, [1] * 5))

    def test_rings_in_whatever_order_of_patterns_and_letters(self):
        for size in [3, 4]:
            for shape in itertools.permutations(ring(size)):
                for turned in itertools.product([1, -1], repeat=size):
                    self.hold([p[::t] for p, t in zip(shape, turned)])

    def test_rings_with_a_third_letter_in_one_pattern(self):
        for size in range(2, 6):
            for place in range(size):
                shape = ring(size)
                shape[place] = shape[place] + ("F",)
                d, w, y = self.hold(shape)
                self.assertGreaterEqual(w[place], d)
        self.assertEqual(sum(weights(pattern_list("ABF BC CA"))[1]), 2 * weights(pattern_list("ABF BC CA"))[0])

    def test_a_ring_with_a_letter_of_another_pattern(self):
        for size in range(3, 6):
            for place in range(size):
                shape = ring(size)
                letter = "ABCDE"[(place + 2) % size]
                if letter not in shape[place]:
                    shape[place] = shape[place] + (letter,)
                self.hold(shape)

    def test_patterns_within_others_and_the_same_one_twice(self):
        for text in WITHIN:
            self.hold(pattern_list(text))
        for text, wanted in [("AB A", [1, 0]), ("A AB", [0, 1]), ("C CBA B", [0, 1, 0]), ("AB BC B CD", [1, 0, 0, 1])]:
            d, w, y = self.hold(pattern_list(text))
            self.assertEqual(w, [d * n for n in wanted])

    def test_patterns_that_share_no_letter(self):
        for text in APART:
            d, w, y = self.hold(pattern_list(text))
            self.assertEqual(w, [d] * len(w))
        self.assertEqual(weights(pattern_list("A B C D E F")), (1, [1] * 6, [1] * 6))

    def test_prices_stand_by_the_alphabet(self):
        self.assertEqual(weights(pattern_list("FC FB FA")), (1, [1, 1, 1], [1, 1, 1, 0]))
        self.assertEqual(weights(pattern_list("AC AB AF")), (1, [1, 1, 1], [0, 1, 1, 1]))
        self.assertEqual(weights(pattern_list("ZC CA CM")), (1, [1, 1, 1], [1, 0, 1, 1]))

    def test_bottoms_above_2(self):
        self.assertEqual(weights(pattern_list(THIRDS)), (3, [1] * 4, [1] * 4))
        self.assertEqual(weights(pattern_list("ABCD AE BE CE DE")), (4, [3, 1, 1, 1, 1], [1, 1, 1, 1, 3]))
        self.assertEqual(weights(pattern_list("DCBA DE EC EB EA")), (4, [3, 1, 1, 1, 1], [1, 1, 1, 1, 3]))
        self.assertEqual(weights(pattern_list("ABC AD BD CD")), (3, [2, 1, 1, 1], [1, 1, 1, 2]))

    def test_trees(self):
        for text in TREE_SHAPES:
            self.hold(pattern_list(text))

    def test_all_small_shapes(self):
        for letters, most in [("A", 6), ("AB", 5), ("ABC", 4), ("ABCD", 3)]:
            for size in range(1, most + 1):
                for shape in small_shapes(letters, size):
                    self.hold(shape)

    def test_six_patterns_of_any_letters(self):
        draw = source(31)
        bottoms = {self.hold(drawn_shape(draw, 6))[0] for turn in range(2500)}
        self.assertTrue({1, 2, 3, 4} <= bottoms, bottoms)

    def test_six_patterns_of_two_or_three_letters(self):
        draw = source(32)
        bottoms = set()
        for turn in range(1500):
            bottoms.add(self.hold([tuple(draw.sample("ABCDEF", draw.choice([2, 3, 3]))) for i in range(6)])[0])
        self.assertTrue({1, 2, 3, 4, 5} <= bottoms, bottoms)

    def test_one_to_six_patterns(self):
        draw = source(33)
        for turn in range(1500):
            self.hold(drawn_shape(draw, draw.randint(1, 6), draw.choice(["ABCDEF", "ABCD", "ZQXMCA"])))
            self.hold(drawn_tree_shape(draw, draw.randint(1, 6)))

    def test_somewhat_beyond_the_bounds(self):
        draw = source(34)
        for turn in range(60):
            self.hold([tuple(draw.sample("ABCDEFGHI", draw.randint(1, 6))) for i in range(9)])
        planes = [tuple(FANO[(i + step) % 7] for step in (0, 1, 3)) for i in range(7)]
        self.assertEqual(self.hold(planes), (3, [1] * 7, [1] * 7))

    def test_the_same_behind_other_shapes(self):
        draw = source(35)
        shapes = [pattern_list(text) for text in CHAINS + STARS + WITHIN + APART]
        shapes += [drawn_shape(draw, draw.randint(2, 6)) for turn in range(60)]
        told = [copy.deepcopy(weights(shape)) for shape in shapes]
        for turn in range(3):
            for i in draw.sample(range(len(shapes)), len(shapes)):
                self.assertEqual(weights(copy.deepcopy(shapes[i])), told[i], shapes[i])

    def test_lists_of_ones_own(self):
        shape = pattern_list("AB BC CA")
        told = weights(shape)
        again = weights(shape)
        self.assertIsNot(told[1], again[1])
        self.assertIsNot(told[2], again[2])
        self.assertIsNot(told[1], told[2])
        told[1].clear()
        told[2].append(7)
        self.assertEqual(again, (2, [1, 1, 1], [1, 1, 1]))
        self.assertEqual(weights(shape), (2, [1, 1, 1], [1, 1, 1]))
        self.assertEqual(shape, pattern_list("AB BC CA"))


class Bounds(unittest.TestCase):
    def hold(self, shape, rows):
        """The product that [13] tells, and whether it bounds the answers."""
        before = copy.deepcopy((shape, rows))
        told = bound(shape, rows)
        self.assertEqual((shape, rows), before)
        self.assertEqual([type(told)] + [type(part) for part in told], [tuple, int, int])
        d, w, y = weights(shape)
        self.assertEqual(told, (d, math.prod(len(table) ** n for table, n in zip(rows, w))), (shape, rows))
        return told

    def whole_weights(self, text, rows, product):
        """For shapes whose weights are whole numbers over 1; by another bottom all of them are as many times more."""
        told = bound(pattern_list(text), rows)
        self.assertEqual(told, (told[0], product ** told[0]))

    def line(self, size, width):
        return [(i,) * width for i in range(size)]

    def test_one_pattern(self):
        for size in range(61):
            self.assertEqual(bound([("A",)], [self.line(size, 1)]), (1, size))

    def test_no_rows_in_a_pattern_of_weight_0(self):
        self.whole_weights("AB A", [[(1, 2), (3, 4)], []], 2)
        self.whole_weights("A AB", [[], [(1, 2), (3, 4), (5, 6)]], 3)
        self.whole_weights("AB BC CD", [self.line(3, 2), [], self.line(4, 2)], 12)
        self.whole_weights("AF BF CF F", [self.line(3, 2)] * 3 + [[]], 27)

    def test_no_rows_in_a_pattern_of_weight_above_0(self):
        self.assertEqual(bound([("A",)], [[]]), (1, 0))
        self.whole_weights("AB A", [[], [(1,)]], 0)
        self.whole_weights("AB BC CD", [[], self.line(3, 2), self.line(4, 2)], 0)
        for place in range(3):
            rows = [self.line(2, 2), self.line(3, 2), self.line(4, 2)]
            rows[place] = []
            self.assertEqual(bound(ring(3), rows), (2, 0))

    def test_no_rows_at_all(self):
        self.whole_weights("AB A", [[], []], 0)
        self.assertEqual(bound(ring(3), [[], [], []]), (2, 0))

    def test_one_row_each(self):
        for text in CHAINS + STARS + WITHIN + APART:
            shape = pattern_list(text)
            rows = [self.line(1, len(letters)) for letters in shape]
            self.assertEqual(bound(shape, rows), (weights(shape)[0], 1))

    def test_many_rows(self):
        self.assertEqual(bound(ring(3), [self.line(60, 2)] * 3), (2, 60 ** 3))
        self.assertEqual(bound(ring(3), [self.line(60, 2), self.line(7, 2), self.line(59, 2)]), (2, 60 * 7 * 59))
        self.assertEqual(bound(ring(5), [self.line(60, 2)] * 5), (2, 60 ** 5))
        self.assertEqual(bound(pattern_list("A B C D E F"), [self.line(60, 1)] * 6), (1, 60 ** 6))
        rows = [self.line(60, 4)] + [self.line(59, 2)] * 4
        self.assertEqual(bound(pattern_list("ABCD AE BE CE DE"), rows), (4, 60 ** 3 * 59 ** 4))
        rows = [self.line(5, 4)] + [self.line(7, 2), self.line(11, 2), self.line(13, 2), self.line(17, 2)]
        self.assertEqual(bound(pattern_list("ABCD AE BE CE DE"), rows), (4, 5 ** 3 * 7 * 11 * 13 * 17))

    def test_the_rows_that_stand_are_counted_whether_they_are_in_an_answer_or_not(self):
        self.whole_weights("AB BC CD", [[(1, 1), (2, 2)], [(3, 3)], [(5, 5)]], 2)

    def test_the_answers_are_bounded(self):
        draw = source(36)
        reached = 0
        for turn in range(900):
            shape = drawn_shape(draw, draw.randint(1, 6), draw.choice(["ABCDEF", "ABCD", "ABC"]))
            rows = drawn_rows(draw, shape, draw.choice([2, 6, 30]), draw.choice([[0], [0, 1], [-1, 0, 1]]))
            d, product = self.hold(shape, rows)
            found = len(answers(shape, rows))
            self.assertLessEqual(found ** d, product, (shape, rows))
            reached += found > 1 and found ** d == product
        self.assertGreater(reached, 20)

    def test_the_answers_are_bounded_far_beyond_what_can_be_listed(self):
        draw = source(37)
        for turn in range(150):
            shape = drawn_tree_shape(draw, draw.randint(1, 6))
            rows = drawn_rows(draw, shape, 60, list(range(draw.choice([2, 4, 9]))))
            d, product = self.hold(shape, rows)
            self.assertLessEqual(count(shape, rows, apart(shape)[1]) ** d, product, (shape, rows))

    def test_rings_of_every_pair(self):
        for size in range(2, 7):
            for side in [2, 3]:
                rows = [sorted(itertools.product(range(side), repeat=2))] * size
                d, product = self.hold(ring(size), rows)
                self.assertEqual(product, side ** (size * d))


class Filled(unittest.TestCase):
    def hold(self, shape, m):
        """Holds the full rows against all that [14] says; whether the answers were counted."""
        before = copy.deepcopy(shape)
        rows = filled(shape, m)
        self.assertEqual(shape, before)
        d, w, y = weights(shape)
        price = dict(zip(letters_in(shape), y))
        self.assertEqual([type(rows)] + [type(table) for table in rows], [list] * (len(shape) + 1))
        for letters, table in zip(shape, rows):
            cells = [range(m ** price[letter]) for letter in letters]
            self.assertEqual(table, sorted(itertools.product(*cells)), (shape, m))
            self.assertEqual({type(row) for row in table}, {tuple})
            self.assertEqual({type(cell) for row in table for cell in row}, {int})
            self.assertLessEqual(len(table), m ** d)
        total = m ** sum(w)
        self.assertEqual(bound(shape, rows), (d, total ** d), (shape, m))
        return self.counted(shape, rows, total)

    def counted(self, shape, rows, total):
        taken = apart(shape)
        if taken[0] == "tree":
            self.assertEqual(count(shape, rows, taken[1]), total)
        if total <= 1500:
            self.assertEqual(len(answers(shape, rows)), total)
        return taken[0] == "tree" or total <= 1500

    def hold_each(self, shape):
        d = weights(shape)[0]
        return [self.hold(shape, m) for m in range(1, 5) if m ** d <= 60]

    def test_one_pattern_of_one_letter(self):
        for m in range(1, 5):
            self.assertEqual(filled([("A",)], m), [[(cell,) for cell in range(m)]])
        self.assertEqual(len(self.hold_each([("A",)])), 4)

    def test_a_star(self):
        one = [(0, 0), (1, 0), (2, 0)]
        self.assertEqual(filled(pattern_list("AF BF FC"), 3), [one, one, [(0, 0), (0, 1), (0, 2)]])

    def test_a_ring_of_three(self):
        pairs = sorted(itertools.product([0, 1, 2], repeat=2))
        self.assertEqual(filled(ring(3), 3), [pairs] * 3)
        self.assertEqual(len(answers(ring(3), filled(ring(3), 4))), 64)

    def test_prices_above_1(self):
        shape = pattern_list("ABC AD BD CD")
        rows = filled(shape, 2)
        self.assertEqual(rows[0], sorted(itertools.product([0, 1], repeat=3)))
        self.assertEqual(rows[1:], [sorted(itertools.product([0, 1], [0, 1, 2, 3]))] * 3)
        self.assertEqual(len(answers(shape, rows)), 32)
        turned = filled(pattern_list("ABC DA BD DC"), 2)
        self.assertEqual(turned[1], sorted(itertools.product([0, 1, 2, 3], [0, 1])))
        self.assertEqual(turned[2], rows[2])

    def test_m_of_1_is_one_row_of_noughts(self):
        for text in CHAINS + STARS + WITHIN + APART:
            shape = pattern_list(text)
            self.assertEqual(filled(shape, 1), [[(0,) * len(letters)] for letters in shape])

    def test_named_shapes(self):
        for text in CHAINS + STARS + WITHIN + APART + [THIRDS, "ABCD AE BE CE DE", "ABC AD BD CD"]:
            self.hold_each(pattern_list(text))
        for size in range(2, 7):
            self.hold_each(ring(size))

    def test_small_shapes(self):
        for size in range(1, 4):
            for shape in small_shapes("ABC", size):
                self.hold_each(shape)

    def test_drawn_shapes(self):
        draw = source(38)
        counted = []
        for turn in range(250):
            counted += self.hold_each(drawn_shape(draw, draw.randint(1, 6)))
        self.assertGreater(counted.count(True), 400)

    def test_the_answers_by_trial(self):
        for text in ["AB BC CA", "AB BC CA ABC", "ABC AD BD CD", "AB BC CD", "BA AC"]:
            shape = pattern_list(text)
            rows = filled(shape, 2)
            told = answers_by_trial(shape, rows)
            self.assertEqual(answers(shape, rows), told)
            self.assertEqual(len(told), 2 ** sum(weights(shape)[1]))

    def test_somewhat_beyond_the_bounds(self):
        self.assertEqual(filled([("A",)], 70), [[(cell,) for cell in range(70)]])
        self.hold(ring(3), 9)

    def test_lists_of_ones_own(self):
        shape = pattern_list("AB AB")
        rows = filled(shape, 2)
        self.assertIsNot(rows[0], rows[1])
        kept = copy.deepcopy(rows)
        rows[0].clear()
        self.assertEqual(rows[1], kept[1])
        rows.pop()
        self.assertEqual(filled(shape, 2), kept)
        self.assertEqual(shape, pattern_list("AB AB"))


if __name__ == "__main__":
    unittest.main()
