"""Parts laid in orders, and papers of fewest bits: D1, D2."""

import itertools
import random
import unittest

from packedforms.orders import MOST_LAID, MOST_LEAST, bits_of, falling, fewest, orderfault, placed
from tests.planning import changed
from tests.things import NO_THINGS, deep

ALIGNS = (1, 8, 16, 32, 64)
# 1 bit, then 64 aligned ones, then 1 bit again: in the told order most of the bits are gaps.
GAPPY = ((1, 1), (64, 64), (1, 1), (8, 8))


def random_parts(dice, many):
    sizes = (0, 1, 3, 8, 12, 16, 24, 40, 64, 100, 128, 4096)
    return tuple((dice.choice(sizes), dice.choice(ALIGNS)) for each in range(many))


def orders(parts):
    return list(itertools.permutations(range(len(parts))))


class PlacingTest(unittest.TestCase):
    def test_constants(self):
        self.assertEqual((MOST_LAID, MOST_LEAST), (8, 5))

    def told(self, parts, order, places, bits):
        self.assertEqual(placed(parts, order), places)
        self.assertEqual(bits_of(parts, order), bits)

    def test_no_parts_and_one(self):
        self.told((), (), (), 0)
        for multiple in ALIGNS:
            for size in (0, 1, 7, 8, 64, 4096):
                self.told(((size, multiple),), (0,), (0,), size)

    def test_orders(self):
        self.told(GAPPY, (0, 1, 2, 3), (0, 64, 128, 136), 144)
        self.told(GAPPY, (1, 3, 0, 2), (72, 0, 73, 64), 74)
        self.told(GAPPY, (3, 2, 0, 1), (9, 64, 8, 0), 128)

    def test_each_align(self):
        for multiple in ALIGNS:
            self.told(((1, 1), (3, multiple)), (0, 1), (0, multiple), multiple + 3)
            self.told(((multiple, 1), (3, multiple)), (0, 1), (0, multiple), multiple + 3)
            self.told(((multiple + 1, 1), (3, multiple)), (0, 1), (0, 2 * multiple), 2 * multiple + 3)

    def test_parts_without_bits_lie_at_0(self):
        parts = ((3, 1), (0, 64), (5, 1), (0, 1), (8, 8))
        self.told(parts, (0, 1, 2, 3, 4), (0, 0, 3, 0, 8), 16)
        self.told(parts, (1, 3, 4, 2, 0), (13, 0, 8, 0, 0), 16)
        self.told(((0, 64), (0, 8)), (1, 0), (0, 0), 0)

    def test_eight_parts(self):
        parts = ((4096, 64),) * 8
        self.told(parts, tuple(range(8)), tuple(range(0, 8 * 4096, 4096)), 8 * 4096)
        parts = tuple((size, 1) for size in range(1, 9))
        self.told(parts, (7, 6, 5, 4, 3, 2, 1, 0), (35, 33, 30, 26, 21, 15, 8, 0), 36)

    def test_falling(self):
        self.assertEqual(falling(()), ())
        self.assertEqual(falling(GAPPY), (1, 3, 0, 2))
        self.assertEqual(falling(((1, 8),) * 8), tuple(range(8)))
        self.assertEqual(falling(((1, 1), (1, 16), (0, 64), (1, 8), (1, 16), (1, 32))), (2, 5, 1, 4, 3, 0))

    def test_placings_are_right(self):
        dice = random.Random(3)
        for each in range(400):
            parts = random_parts(dice, dice.randint(0, 8))
            order = tuple(dice.sample(range(len(parts)), len(parts)))
            places = placed(parts, order)
            bits = [set(range(at, at + size)) for at, (size, multiple) in zip(places, parts)]
            self.assertEqual(len(set().union(*bits)), sum(size for size, multiple in parts))
            self.assertEqual(bits_of(parts, order), max([0] + [max(row) + 1 for row in bits if row]))
            end = 0
            for number in order:
                size, multiple = parts[number]
                if size == 0:
                    self.assertEqual(places[number], 0)
                    continue
                self.assertEqual(places[number] % multiple, 0)
                self.assertTrue(end <= places[number] < end + multiple)
                end = places[number] + size

    def test_the_bits_of_falling(self):
        dice = random.Random(9)
        for each in range(600):
            parts = random_parts(dice, dice.randint(0, 8))
            order = falling(parts)
            self.assertEqual(list(order), sorted(range(len(parts)), key=lambda k: (-parts[k][1], k)))
            self.assertLessEqual(bits_of(parts, order), sum(-(-size // multiple) * multiple for size,
                                                            multiple in parts))


class FewestTest(unittest.TestCase):
    def test_papers(self):
        self.assertEqual(fewest(())[:2], (0, ()))
        self.assertEqual(fewest(((0, 64),))[:2], (0, (0,)))
        self.assertEqual(fewest(((4096, 64),))[:2], (4096, (0,)))
        self.assertEqual(fewest(GAPPY)[:2], (74, (1, 3, 0, 2)))
        self.assertEqual(fewest(((8, 8),) * 5)[:2], (40, (0, 1, 2, 3, 4)))
        self.assertEqual(fewest(((1, 1), (0, 1), (8, 8)))[:2], (9, (1, 2, 0)))

    def test_gaps_are_filled(self):
        self.assertEqual(fewest(((12, 16), (4, 1), (16, 16)))[:2], (32, (0, 1, 2)))
        self.assertEqual(fewest(((4, 1), (16, 16), (12, 16)))[:2], (32, (1, 2, 0)))

    def test_the_first_order_with_the_fewest_bits(self):
        dice = random.Random(12)
        for each in range(400):
            parts = random_parts(dice, dice.randint(0, 5))
            paper = fewest(parts)
            least = min(bits_of(parts, order) for order in orders(parts))
            first = [order for order in orders(parts) if bits_of(parts, order) == least][0]
            self.assertEqual(paper[:2], (least, first))
            self.assertIsNone(orderfault(parts, paper))
            self.assertEqual(fewest(parts), paper)

    def test_no_placing_has_fewer(self):
        dice = random.Random(6)
        for each in range(60):
            parts = tuple((dice.choice((1, 3, 7, 8, 9)), dice.choice((1, 8, 16))) for each in range(3))
            bits = fewest(parts)[0]
            rows = [range(0, bits, multiple) for size, multiple in parts]
            for places in itertools.product(*rows):
                taken = [set(range(at, at + size)) for at, (size, multiple) in zip(places, parts)]
                if sum(map(len, taken)) == len(set().union(*taken)):
                    self.assertGreaterEqual(max(map(max, taken)) + 1, bits)


def whole_tree(many):
    """The tree without any cut but at the whole orders."""
    return tuple(whole_tree(many - 1) for each in range(many))


class OrderFaultTest(unittest.TestCase):
    PARTS = ((1, 1), (16, 16), (1, 1))
    PAPER = (18, (1, 0, 2), ())

    def told(self, parts, paper, why, beginning=()):
        self.assertEqual(orderfault(parts, paper), (why, beginning))

    def right(self, parts, paper):
        self.assertIsNone(orderfault(parts, paper))

    def test_right(self):
        self.right(self.PARTS, self.PAPER)
        self.right(self.PARTS, (18, (1, 2, 0), ()))
        self.right(self.PARTS, (18, (1, 0, 2), whole_tree(3)))
        self.right(self.PARTS, (18, (1, 0, 2), ((), (), ())))
        self.right((), (0, (), ()))
        self.right(((0, 1),), (0, (0,), ()))

    def test_parts(self):
        for parts in NO_THINGS + (((1, 1), None), ((1, 1, 1),), ((1,),), ((-1, 1),), ((4097, 1),), ((1, 0),), ((1, 2),),
                                  ((1, 128),), ((1, -8),), ((True, 1),), ((1, True),), ((1, None),), (("1", 1),),
                                  ((1, 1),) * 9, [(1, 1)]):
            if parts != ():
                self.told(parts, self.PAPER, "parts")
                self.told(parts, None, "parts")
        for size in (0, 4096):
            for multiple in ALIGNS:
                self.right(((size, multiple),), (size, (0,), ()))

    def test_form(self):
        for paper in NO_THINGS + ((18, (1, 0, 2)), (18, (1, 0, 2), (), ()), (True, (1, 0, 2), ()),
                                  (None, (1, 0, 2), ()),
                                  ("18", (1, 0, 2), ()), ((18,), (1, 0, 2), ()), "abc"):
            self.told(self.PARTS, paper, "form")

    def test_order(self):
        for order in NO_THINGS + ((0, 1), (0, 1, 2, 3), (0, 1, 1), (0, 1, 3), (0, 1, -1), (False, True, 2),
                                  (0, True, 2),
                                  ("0", "1", "2"), (0, 1, None), (0, 1, (2,)), (0, 1, deep(270))):
            self.told(self.PARTS, (18, order, ()), "order")
        self.told((), (0, (0,), ()), "order")

    def test_bits(self):
        for bits in (17, 19, 0, -18, 10 ** 400):
            self.told(self.PARTS, (bits, (1, 0, 2), ()), "bits")
        self.told(self.PARTS, (18, (0, 1, 2), ()), "bits")
        self.told(self.PARTS, (33, (0, 1, 2), None), "tree")
        self.told((), (1, (), ()), "bits")

    def test_cuts(self):
        parts = ((9, 8), (9, 8))
        self.told(parts, (25, (0, 1), ()), "tree")
        self.right(parts, (25, (0, 1), (((),), ((),))))
        self.told(parts, (25, (0, 1), ((), ((),))), "tree", (0,))
        self.told(parts, (25, (0, 1), (((),), ())), "tree", (1,))
        self.right(((8, 8), (9, 8)), (17, (0, 1), ()))

    def test_papers_of_orders_that_are_not_the_shortest(self):
        parts = ((1, 1), (8, 8))
        self.assertEqual(bits_of(parts, (0, 1)), 16)
        self.told(parts, (16, (0, 1), ()), "tree")
        self.told(parts, (16, (0, 1), whole_tree(2)), "tree", (1, 0))
        self.told(parts, (16, (0, 1), (((),), ())), "tree", (1,))
        self.right(parts, (9, (1, 0), ()))

    def test_trees_of_another_number(self):
        tree = whole_tree(3)
        for other in (tree[:2], tree + tree[:1], ((),), ((),) * 4):
            self.told(self.PARTS, (18, (1, 0, 2), other), "tree")
        self.told(self.PARTS, (18, (1, 0, 2), changed(tree, (1,), ((),))), "tree", (1,))
        self.told(self.PARTS, (18, (1, 0, 2), changed(tree, (2, 1), ((), ()))), "tree", (2, 1))
        self.told(self.PARTS, (18, (1, 0, 2), changed(tree, (2, 1, 0), ((),))), "tree", (2, 1, 0))
        self.told((), (0, (), ((),)), "tree")

    def test_things_that_are_no_trees(self):
        tree = whole_tree(3)
        for thing in (None, True, 0, "", "ab"):
            self.told(self.PARTS, (18, (1, 0, 2), thing), "tree")
            self.told(self.PARTS, (18, (1, 0, 2), changed(tree, (0,), thing)), "tree", (0,))
            self.told(self.PARTS, (18, (1, 0, 2), changed(tree, (1, 1, 0), thing)), "tree", (1, 2, 0))
        self.told(self.PARTS, (18, (1, 0, 2), deep(270)), "tree")

    def test_the_first_tree_in_preorder(self):
        tree = whole_tree(3)
        for place, beginning in (((2, 1), (2, 1)), ((2,), (2,)), ((1, 0, 0), (1, 0, 2)), ((0, 1), (0, 2)),
                                 ((0, 0), (0, 1)), ((0,), (0,)), ((), ())):
            tree = changed(tree, place, None)
            self.told(self.PARTS, (18, (1, 0, 2), tree), "tree", beginning)

    def test_eight_parts(self):
        parts = ((8, 8),) * 7 + ((1, 1),)
        self.right(parts, (57, tuple(range(8)), ()))
        self.told(parts, (64, (7, 0, 1, 2, 3, 4, 5, 6), ()), "tree")
        self.told(parts, (57, (7, 0, 1, 2, 3, 4, 5, 6), ()), "bits")
        parts = ((9, 8),) + ((8, 8),) * 7
        bits = bits_of(parts, tuple(range(1, 8)) + (0,))
        self.assertEqual(bits, 65)
        self.right(parts, (65, (1, 2, 3, 4, 5, 6, 7, 0), ()))
        self.told(parts, (72, (0, 1, 2, 3, 4, 5, 6, 7), ()), "tree")

    def test_what_is_let_by_is_so(self):
        dice = random.Random(21)
        let_by = 0
        for each in range(1500):
            parts = tuple((dice.choice((1, 8, 9, 12)), dice.choice((1, 8, 16))) for each in range(dice.randint(1, 4)))
            order = tuple(dice.sample(range(len(parts)), len(parts)))
            tree = dice.choice((whole_tree(len(parts)), fewest(parts)[2], ()))
            if orderfault(parts, (bits_of(parts, order), order, tree)) is None:
                let_by += 1
                self.assertEqual(bits_of(parts, order), min(bits_of(parts, other) for other in orders(parts)))
            elif tree == whole_tree(len(parts)):
                self.assertGreater(bits_of(parts, order), fewest(parts)[0])
        self.assertGreater(let_by, 300)


if __name__ == "__main__":
    unittest.main()
