import copy
import itertools
import unittest

from helpers import (BIG, along, drawn_rows, drawn_shape, letters_in, parts_by_trial, pattern_list, ring, source)
from joinwood.parts import by_letters, levels
from joinwood.questions import answers
from joinwood.weights import bound, filled

SHAPES = ["A", "BA", "AB BC", "AB BC CA", "A B C", "AB CD", "AB AB", "AB BA A", "DBCA", "ABC CD D", "AB BC CD DA",
          "AB BC CA ABC", "BD AC CB"]


class PartTests(unittest.TestCase):
    def hold(self, shape, rows, order):
        """Holds levels and answers along the order against parts by trial, the plain answers and the bound."""
        before = copy.deepcopy((shape, rows, order))
        counts = levels(shape, rows, order)
        told = by_letters(shape, rows, order)
        self.assertEqual((shape, rows, order), before)
        self.assertEqual((type(counts), type(told)), (list, list))
        self.assertEqual({type(n) for n in counts}, {int})
        wanted = [len(parts_by_trial(shape, rows, order, place)) for place in range(len(order) + 1)]
        self.assertEqual(counts, wanted, before)
        self.assertEqual({type(answer) for answer in told} - {tuple}, set())
        self.assertEqual(told, parts_by_trial(shape, rows, order, len(order)), before)
        plain = answers(shape, rows)
        self.assertEqual(told, sorted(along(shape, order, answer) for answer in plain), before)
        self.assertEqual(counts[-1], len(plain))
        d, product = bound(shape, rows)
        self.assertLessEqual(max(counts) ** d, product, before)
        return counts


class Levels(PartTests):
    def test_one_pattern(self):
        rows = [[(1, 5), (1, 6), (2, 5)]]
        self.assertEqual(levels([("A", "B")], rows, ["A", "B"]), [1, 2, 3])
        self.assertEqual(levels([("A", "B")], rows, ["B", "A"]), [1, 2, 3])
        self.assertEqual(levels([("A",)], [[(7,), (8,), (9,)]], ["A"]), [1, 3])

    def test_a_pattern_without_rows(self):
        self.assertEqual(levels([("A",)], [[]], ["A"]), [0, 0])
        for place in range(3):
            rows = [[(1, 1)], [(1, 1)], [(1, 1)]]
            rows[place] = []
            for order in itertools.permutations("ABC"):
                self.assertEqual(levels(ring(3), rows, list(order)), [0, 0, 0, 0])
                self.assertEqual(by_letters(ring(3), rows, list(order)), [])
        self.assertEqual(levels(pattern_list("A B"), [[(1,), (2,)], []], ["A", "B"]), [0, 0, 0])
        self.assertEqual(levels(pattern_list("A B"), [[], [(1,), (2,)]], ["A", "B"]), [0, 0, 0])

    def test_parts_that_lead_to_no_answer_count(self):
        shape = pattern_list("AB BC")
        rows = [[(1, 1), (2, 2), (3, 3)], [(3, 4), (5, 6), (7, 6)]]
        self.assertEqual(levels(shape, rows, ["A", "B", "C"]), [1, 3, 1, 1])
        self.assertEqual(levels(shape, rows, ["C", "A", "B"]), [1, 2, 6, 1])
        self.assertEqual(levels(shape, rows, ["A", "C", "B"]), [1, 3, 6, 1])
        self.assertEqual(levels(shape, rows, ["B", "A", "C"]), [1, 1, 1, 1])

    def test_every_pattern_with_the_letters_counts_not_only_the_first(self):
        shape = pattern_list("AB BC AC")
        rows = [[(0, 0), (1, 1)], [(0, 0), (1, 1)], [(0, 1), (1, 0)]]
        for order in itertools.permutations("ABC"):
            self.assertEqual(levels(shape, rows, list(order)), [1, 2, 2, 0])
            self.assertEqual(by_letters(shape, rows, list(order)), [])

    def test_two_letters_of_a_pattern_on_either_side_of_another_letter(self):
        rows = [[(1, 1), (2, 2)], [(5,), (6,), (7,)]]
        self.assertEqual(levels(pattern_list("AC B"), rows, ["A", "B", "C"]), [1, 2, 6, 6])
        self.assertEqual(levels(pattern_list("CA B"), rows, ["C", "B", "A"]), [1, 2, 6, 6])

    def test_full_rows(self):
        for order in itertools.permutations("ABC"):
            self.assertEqual(levels(ring(3), filled(ring(3), 4), list(order)), [1, 4, 16, 64])

    def test_ten_thousand_parts(self):
        line = [(i,) for i in range(10)]
        shape = pattern_list("D B A C")
        self.assertEqual(levels(shape, [line] * 4, list("CADB")), [1, 10, 100, 1000, 10000])
        self.assertEqual(by_letters(shape, [line] * 4, list("CADB")), list(itertools.product(range(10), repeat=4)))
        shape = pattern_list("ABCD DEF EFA F B C")
        rows = filled(shape, 2)
        self.assertEqual(levels(shape, rows, list("FEDCBA"))[-1], len(answers(shape, rows)))

    def test_sixty_rows_and_few_parts(self):
        steps = [(i, (i + 1) % 60) for i in range(60)]
        self.assertEqual(levels(ring(6), [steps] * 6, list("ABCDEF")), [1] + [60] * 5 + [0])
        self.assertEqual(levels(ring(6), [steps] * 6, list("ACBDEF")), [1, 60, 3600, 60, 60, 60, 0])
        self.assertEqual(by_letters(ring(6), [steps] * 6, list("ACBDEF")), [])

    def test_lists_of_ones_own(self):
        shape, rows, order = [("A",)], [[(1,), (2,)]], ["A"]
        counts = levels(shape, rows, order)
        told = by_letters(shape, rows, order)
        self.assertIsNot(told, rows[0])
        counts.clear()
        told.append((3,))
        self.assertEqual((shape, rows, order), ([("A",)], [[(1,), (2,)]], ["A"]))
        self.assertEqual(levels(shape, rows, order), [1, 2])
        self.assertEqual(by_letters(shape, rows, order), [(1,), (2,)])


class ByLetters(PartTests):
    def test_cells_stand_in_the_order_s_letters(self):
        shape = [("B", "A")]
        rows = [[(1, 9), (2, 8), (2, 10)]]
        self.assertEqual(by_letters(shape, rows, ["A", "B"]), [(8, 2), (9, 1), (10, 2)])
        self.assertEqual(by_letters(shape, rows, ["B", "A"]), [(1, 9), (2, 8), (2, 10)])

    def test_in_the_order_of_numbers(self):
        rows = [[(-10, 2), (-9, 1), (BIG, -BIG), (2, -1)]]
        self.assertEqual(by_letters([("A", "B")], [sorted(rows[0])], ["A", "B"]),
                         [(-10, 2), (-9, 1), (2, -1), (BIG, -BIG)])
        self.assertEqual(by_letters([("A", "B")], [sorted(rows[0])], ["B", "A"]),
                         [(-BIG, BIG), (-1, 2), (1, -9), (2, -10)])

    def test_along_the_alphabet_the_plain_ones(self):
        draw = source(41)
        for turn in range(150):
            shape = drawn_shape(draw, draw.randint(1, 6))
            rows = drawn_rows(draw, shape, 20, [-1, 0, 1])
            self.assertEqual(by_letters(shape, rows, letters_in(shape)), answers(shape, rows))

    def test_all_orders_of_small_shapes(self):
        draw = source(42)
        for text in SHAPES:
            shape = pattern_list(text)
            for order in itertools.permutations(letters_in(shape)):
                for turn in range(5):
                    self.hold(shape, drawn_rows(draw, shape, draw.choice([4, 9]), [-1, 0, 2]), list(order))

    def test_drawn_shapes_along_drawn_orders(self):
        draw = source(43)
        seen = {"none": 0, "thinned": 0, "many": 0}
        for turn in range(250):
            shape = drawn_shape(draw, draw.randint(1, 6))
            rows = drawn_rows(draw, shape, draw.choice([6, 20, 60]), draw.choice([[0, 1], [-1, 0, BIG]]))
            for again in range(2):
                counts = self.hold(shape, rows, draw.sample(letters_in(shape), len(letters_in(shape))))
                seen["none"] += counts[-1] == 0 and counts[0] == 1
                seen["thinned"] += max(counts) > counts[-1] > 0
                seen["many"] += counts[-1] > 20
        self.assertTrue(min(seen.values()) > 10, seen)

    def test_somewhat_beyond_the_bounds(self):
        letters = "ABCDEFGH"
        shape = [(one, two) for one, two in zip(letters, letters[1:])]
        rows = [[(i, (i * 7) % 80) for i in range(80)]] * 7
        told = by_letters(shape, rows, list("HGFEDCBA"))
        self.assertEqual(len(told), 80)
        self.assertEqual(sorted(answer[::-1] for answer in told), answers(shape, rows))


if __name__ == "__main__":
    unittest.main()
