import copy
import unittest

from helpers import (after, all_parents, can_be_done, drawn_shape, hangs_together, is_tree, pattern_list,
                     small_shapes, source, steps_to_try)
from joinwood.trees import apart


class Taken(unittest.TestCase):
    def checked(self, shape):
        """What is told of the shape, after holding it against [7] or [8]."""
        before = copy.deepcopy(shape)
        told = apart(shape)
        self.assertEqual(shape, before)
        self.assertIs(type(told), tuple)
        if told[0] == "tree":
            self.assertEqual(len(told), 2)
            self.assertIs(type(told[1]), list)
            self.assertTrue(is_tree(shape, told[1]), (shape, told))
        else:
            self.check_core(shape, told)
        return told[0]

    def check_core(self, shape, told):
        self.assertEqual((told[0], len(told)), ("core", 3))
        steps, ends = told[1], told[2]
        self.assertEqual((type(steps), type(ends)), (list, list))
        left = {i: set(letters) for i, letters in enumerate(shape)}
        for step in steps:
            self.assertIs(type(step), tuple)
            self.assertTrue(can_be_done(left, step), (shape, told, step))
            left = after(left, step)
        own = [(i, tuple(letter for letter in shape[i] if letter in left[i])) for i in sorted(left)]
        self.assertEqual(ends, own, (shape, told))
        self.assertEqual([(type(end), type(end[1])) for end in ends], [(tuple, tuple)] * len(ends))
        self.assertGreaterEqual(len(left), 2)
        for step in steps_to_try(left):
            self.assertFalse(can_be_done(left, step), (shape, told, step))

    def check_kind(self, shape, trees):
        """A tree is told just where one of all the lists of parents is one."""
        there_is = any(hangs_together(shape, parents) for parents in trees)
        self.assertEqual(self.checked(shape), "tree" if there_is else "core", shape)


class Trees(Taken):
    def test_one_pattern(self):
        for text in ["A", "Z", "AB", "DCBA"]:
            self.assertEqual(apart(pattern_list(text)), ("tree", [None]))

    def test_two_patterns(self):
        for text in ["AB BC", "A B", "AB CD", "A AB", "AB A", "AB BA", "AB AB", "ABCD DEFA"]:
            self.assertEqual(self.checked(pattern_list(text)), "tree")
            self.assertIn(apart(pattern_list(text))[1], [[None, 0], [1, None]])

    def test_patterns_that_share_no_letter(self):
        for text in ["A B C", "A B C D E F", "AB CD EF", "AB CD E BA"]:
            self.assertEqual(self.checked(pattern_list(text)), "tree")

    def test_one_within_another_and_alike(self):
        for text in ["ABC AB A", "A AB ABC", "AB ABC BC", "AB AB AB", "A A A A A A", "AB BA AB ABCD", "C CBA BC"]:
            self.assertEqual(self.checked(pattern_list(text)), "tree")

    def test_paths_and_stars(self):
        for text in ["AB BC CD", "CD AB BC", "AB BC CD DE EF", "AF BF CF DF EF", "EF AB CD BC DE", "ABC CDE EFA ACE"]:
            self.assertEqual(self.checked(pattern_list(text)), "tree")

    def test_a_ring_covered_by_a_pattern(self):
        for text in ["AB BC CA ABC", "ABC AB BC CA", "AB BC CD DA ABCD", "AB BC CD DA DBCA E", "AB BC CA CBAD DE"]:
            self.assertEqual(self.checked(pattern_list(text)), "tree")

    def test_a_ring_covered_by_two_patterns_that_meet(self):
        self.assertEqual(self.checked(pattern_list("AB BC CD DA ABC CDA")), "tree")

    def test_the_list_is_ones_own(self):
        shape = pattern_list("AB BC CD")
        parents = apart(shape)[1]
        before = list(parents)
        parents.clear()
        self.assertEqual(apart(shape)[1], before)


class Cores(Taken):
    def test_the_ring_of_three(self):
        left = [(0, ("A", "B")), (1, ("B", "C")), (2, ("C", "A"))]
        self.assertEqual(apart(pattern_list("AB BC CA")), ("core", [], left))

    def test_rings(self):
        for text in ["AB BC CA", "AB BC CD DA", "AB BC CD DE EA", "AB BC CD DE EF FA", "BA CB CD ED FE FA"]:
            shape = pattern_list(text)
            self.assertEqual(self.checked(shape), "core")
            self.assertEqual(apart(shape)[2], list(enumerate(shape)))

    def test_what_hangs_beside_a_ring_is_taken(self):
        told = apart(pattern_list("DAX AB BC CA B"))
        self.assertEqual(self.checked(pattern_list("DAX AB BC CA B")), "core")
        self.assertEqual(told[2], [(1, ("A", "B")), (2, ("B", "C")), (3, ("C", "A"))])

    def test_left_letters_keep_their_own_order(self):
        told = apart(pattern_list("CDA BEA FBC"))
        self.assertEqual(self.checked(pattern_list("CDA BEA FBC")), "core")
        self.assertEqual(told[2], [(0, ("C", "A")), (1, ("B", "A")), (2, ("B", "C"))])

    def test_a_ring_and_a_pattern_apart_from_it(self):
        self.assertEqual(self.checked(pattern_list("AB BC CA D")), "core")
        self.assertEqual(self.checked(pattern_list("DE AB BC CA")), "core")

    def test_two_rings(self):
        self.assertEqual(self.checked(pattern_list("AB BC CA DE EF FD")), "core")

    def test_a_ring_not_wholly_covered(self):
        for text in ["AB BC CD DA ABC", "AB BC CD DA AC", "ABC BCD CDA", "ABC BCD CDA DAB", "AB BC CA AD BD CD"]:
            self.assertEqual(self.checked(pattern_list(text)), "core")

    def test_a_ring_with_a_pattern_twice(self):
        for text in ["AB BC CA AB", "AB BA BC CA", "AB BC CA AB BC CA"]:
            self.assertEqual(self.checked(pattern_list(text)), "core")
            self.assertEqual(len(apart(pattern_list(text))[2]), 3)

    def test_the_lists_are_ones_own(self):
        shape = pattern_list("ABD BC CA")
        before = copy.deepcopy(apart(shape))
        told = apart(shape)
        told[1].clear()
        told[2].clear()
        self.assertEqual(shape, pattern_list("ABD BC CA"))
        self.assertEqual(apart(shape), before)


class JustWhereThereIsOne(Taken):
    def test_all_small_shapes(self):
        for letters, size in [("ABCDE", 1), ("ABCD", 2), ("ABCD", 3), ("ABCD", 4)]:
            trees = all_parents(size)
            for shape in small_shapes(letters, size):
                self.check_kind(shape, trees)

    def test_drawn_shapes_of_five_and_six(self):
        draw = source(3)
        for size, letters, turns in [(5, "ABCDE", 150), (5, "ABCDEF", 100), (6, "ABCDE", 30), (6, "ABCDEF", 30)]:
            trees = all_parents(size)
            for turn in range(turns):
                self.check_kind(drawn_shape(draw, size, letters), trees)

    def test_told_of_many_drawn_shapes(self):
        draw = source(4)
        kinds = [self.checked(drawn_shape(draw, draw.randint(1, 6))) for turn in range(3000)]
        self.assertGreater(min(kinds.count("tree"), kinds.count("core")), 300)

    def test_patterns_and_letters_in_any_order_tell_the_same_kind(self):
        draw = source(5)
        for turn in range(300):
            shape = drawn_shape(draw, draw.randint(2, 6))
            turned = [tuple(draw.sample(letters, len(letters))) for letters in draw.sample(shape, len(shape))]
            self.assertEqual(self.checked(shape), self.checked(turned))


if __name__ == "__main__":
    unittest.main()
