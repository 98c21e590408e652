"""Worths that grow and shrink, and papers in a chain: I4."""

import random
import unittest

from packedforms.growcheck import growfault
from packedforms.growmaker import growth
from packedforms.growth import chained, grown, shrunk
from packedforms.kinds import alike
from packedforms.worths import misfit, sizeof
from tests.growing import grown_by_hand, grown_pair
from tests.test_growcheck import NEW, NUMBERS, OLD, PAPER, TRUTHS
from tests.test_paths import SOME, arm, at, field
from tests.test_store import numbers
from tests.things import BOXES, LIST, N8, N16, NONE, T, box, hole, maybe, nat, record, refusal, row, use, variant, whole
from tests.worlds import BOOK, random_kind, random_worth

SAME_TRUTH = (T, T, ("truth",))
WORTH = (5, ("x", True), (1, 2), (False,), True)
GROWN = (("x", True), (), 5, (1, 2, 7, 8), (False,), (True,))


class GrownTest(unittest.TestCase):
    def both(self, paper, worth, due, book=()):
        self.assertIsNone(growfault(book, book, paper))
        told = grown(paper, worth)
        self.assertTrue(alike(told, due), told)
        self.assertTrue(alike(shrunk(paper, due), worth))
        self.assertTrue(alike(grown(paper, worth), told))

    def test_all_steps(self):
        self.both(PAPER, WORTH, GROWN)
        self.both(PAPER, (0, ("y", 255), (0, 0), (), False), (("y", 255), (), 0, (0, 0, 7, 8), (), (False,)))
        self.assertIsNone(misfit((), OLD, WORTH))
        self.assertIsNone(misfit((), NEW, GROWN))

    def test_numbers_and_truths(self):
        for old, new, worths in ((N8, N16, (0, 255)), (N8, whole(9), (0, 255)), (whole(8), whole(8), (-128, 0, 127)),
                                 (whole(8), whole(64), (-128, 127))):
            for worth in worths:
                self.both(((old, new, ("number",)),), worth, worth)
        for worth in (True, False):
            self.both((SAME_TRUTH,), worth, worth)

    def test_records(self):
        self.both(((NONE, NONE, ("record", ())),), (), ())
        self.both(((NONE, record(a=N8, b=T), ("record", ((-1, -1, 9), (-1, -1, False)))),), (), (9, False))
        paper = ((record(a=N8, b=T, c=N8), record(x=N16, y=N16, z=T),
                  ("record", ((2, 1, None), (0, 1, None), (1, 2, None)))), NUMBERS, TRUTHS)
        self.both(paper, (1, True, 3), (3, 1, True))

    def test_variants(self):
        old, new = variant(a=T, b=T, c=N8), variant(x=N16, y=T, b=T, w=NONE)
        paper = ((old, new, ("variant", ((1, 1), (2, 1), (0, 2)))), TRUTHS, NUMBERS)
        for worth, due in ((("a", True), ("y", True)), (("b", False), ("b", False)), (("c", 7), ("x", 7))):
            self.both(paper, worth, due)

    def test_rows_and_maybes(self):
        self.both(((row(1, T), row(1, T), ("row", 1, ())), TRUTHS), (True,), (True,))
        self.both(((row(1, T), row(3, T), ("row", 1, (False, True))), TRUTHS), (True,), (True, False, True))
        self.both(((maybe(T), maybe(T), ("maybe", 1)), TRUTHS), (), ())
        self.both(((maybe(T), maybe(T), ("maybe", 1)), TRUTHS), (True,), (True,))
        paper = ((maybe(T), maybe(maybe(T)), ("some", 1)), (maybe(T), maybe(T), ("maybe", 2)), TRUTHS)
        self.both(paper, (), ((),))
        self.both(paper, (True,), ((True,),))
        self.both(((T, maybe(T), ("some", 1)), TRUTHS), False, (False,))

    def list_paper(self):
        cell = record(tail=box(use("list", hole("a"))), head=hole("a"), more=N8)
        book = (("list", ("a",), variant(cons=cell, nil=NONE)),)
        return book, growth(LIST, use("list", N8), book, use("list", N16))

    def test_lists(self):
        book, paper = self.list_paper()
        for many in range(13):
            due = ("nil", ())
            for head in range(many)[::-1]:
                due = ("cons", (due, head, 0))
            self.assertTrue(alike(grown(paper, numbers(*range(many))), due))
            self.assertTrue(alike(shrunk(paper, due), numbers(*range(many))))
            self.assertIsNone(misfit(book, use("list", N16), due))

    def test_more_parts_and_boxes_than_a_worth_may_have(self):
        old, new = row(9, box(row(10, row(10, T)))), row(10, box(row(10, row(11, maybe(T)))))
        fresh = ((((),) * 11,) * 10,)
        paper = ((old, new, ("row", 1, fresh)), (row(10, row(10, T)), row(10, row(11, maybe(T))), ("row", 2, ())),
                 (row(10, T), row(11, maybe(T)), ("row", 3, ((),))), (T, maybe(T), ("some", 4)), TRUTHS)
        # The fresh thing alone is too great, as growfault tells; it grows all the same.
        self.assertEqual(growfault((), (), paper), (0, "worth"))
        worth = (((True,) * 10,) * 10,) * 9
        self.assertEqual(sizeof((), old, worth), 1000)
        due = ((((((True,),) * 10) + ((),),) * 10,) * 9) + fresh
        self.assertTrue(alike(grown(paper, worth), due))
        self.assertTrue(alike(shrunk(paper, due), worth))
        self.assertIsNotNone(misfit((), new, due))

    def test_more_than_12_boxes(self):
        old = (("chain", (), maybe(box(use("chain")))),)
        new = (("chain", (), maybe(box(box(use("chain"))))),)
        paper = growth(old, use("chain"), new, use("chain"))
        worth = ()
        for each in range(12):
            worth = (worth,)
        self.assertIsNone(misfit(old, use("chain"), worth))
        self.assertTrue(alike(grown(paper, worth), worth))
        self.assertTrue(alike(shrunk(paper, worth), worth))
        self.assertEqual(misfit(new, use("chain"), worth), (SOME,) * 7)

    def not_shrunk(self, paper, worth, path):
        self.assertIsNone(growfault((), (), paper))
        self.assertIsNone(misfit((), paper[0][1], worth))
        self.assertEqual(refusal(shrunk, paper, worth), ("NotShrunk", path))

    def test_numbers_that_are_none_of_old(self):
        for old, new, wrong in ((N8, N16, (256, 65535)), (N8, whole(16), (-1, 256)), (whole(8), whole(16), (-129, 128)),
                                (nat(1), nat(64), (2, 2 ** 64 - 1))):
            for worth in wrong:
                self.not_shrunk(((old, new, ("number",)),), worth, ())
        self.not_shrunk(PAPER, GROWN[:2] + (256,) + GROWN[3:], (field("z"),))
        self.not_shrunk(PAPER, GROWN[:3] + ((1, 256, 7, 8),) + GROWN[4:], (field("c"), at(1)))
        self.not_shrunk(PAPER, (("y", 256),) + GROWN[1:], (field("b"), arm("y")))

    def test_fresh_worths_that_are_others(self):
        self.not_shrunk(PAPER, GROWN[:3] + ((1, 2, 0, 8),) + GROWN[4:], (field("c"), at(2)))
        self.not_shrunk(PAPER, GROWN[:3] + ((1, 2, 7, 9),) + GROWN[4:], (field("c"), at(3)))
        paper = ((record(a=T), record(a=T, b=row(2, T), c=N8),
                  ("record", ((0, 1, None), (-1, -1, (True, False)), (-1, -1, 1)))), TRUTHS)
        self.assertEqual(shrunk(paper, (True, (True, False), 1)), (True,))
        # At the field's own path, whatever in it is another.
        self.not_shrunk(paper, (True, (True, True), 1), (field("b"),))
        self.not_shrunk(paper, (True, (True, False), 0), (field("c"),))

    def test_a_fresh_truth_is_no_number(self):
        paper = ((NONE, record(a=maybe(N8)), ("record", ((-1, -1, (1,)),))),)
        self.assertEqual(shrunk(paper, ((1,),)), ())
        self.assertEqual(refusal(shrunk, paper, ((),)), ("NotShrunk", (field("a"),)))

    def test_arms_that_none_goes_to(self):
        self.not_shrunk(PAPER, (("w", ()),) + GROWN[1:], (field("b"),))
        self.not_shrunk(((variant(a=T), variant(b=T, a=T), ("variant", ((1, 1),))), TRUTHS), ("b", True), ())

    def test_nothing_by_a_some_step(self):
        self.not_shrunk(PAPER, GROWN[:5] + ((),), (field("e"),))
        paper = ((row(2, T), row(2, maybe(T)), ("row", 1, ())), (T, maybe(T), ("some", 2)), TRUTHS)
        self.not_shrunk(paper, ((True,), ()), (at(1),))
        paper = ((N8, maybe(N16), ("some", 1)), NUMBERS)
        self.not_shrunk(paper, (256,), (SOME,))
        self.not_shrunk(paper, (), ())

    def test_the_first_place_in_preorder_is_told(self):
        """Faults added one by one from the last field on."""
        worth = GROWN
        for place, other, path in ((5, (), (field("e"),)), (3, (1, 2, 7, 9), (field("c"), at(3))),
                                   (3, (1, 2, 9, 9), (field("c"), at(2))), (3, (1, 300, 9, 9), (field("c"), at(1))),
                                   (2, 300, (field("z"),)), (0, ("y", 300), (field("b"), arm("y"))),
                                   (0, ("w", ()), (field("b"),))):
            worth = worth[:place] + (other,) + worth[place + 1:]
            self.not_shrunk(PAPER, worth, path)

    def test_unlike_worths_grow_to_unlike_ones(self):
        dice = random.Random(131)
        looked = 0
        while looked < 150:
            kind = random_kind(dice)
            pair = grown_pair(dice, kind)
            if pair is None or refusal(growth, BOOK, kind, BOOK, pair[0], renamed=pair[1]) is not None:
                continue
            paper = growth(BOOK, kind, BOOK, pair[0], renamed=pair[1])
            try:
                worths = [random_worth(dice, BOOK, kind, dice.randint(0, 3)) for each in range(4)]
            except ValueError:
                continue
            looked += 1
            for one in worths:
                told = grown(paper, one)
                self.assertTrue(alike(told, grown_by_hand(paper, one)))
                self.assertTrue(alike(shrunk(paper, told), one))
                for other in worths:
                    self.assertEqual(alike(one, other), alike(told, grown(paper, other)))

    def test_what_is_not_shrunk_never_grew(self):
        """A small kind, gone through one by one."""
        old, new = record(a=nat(1), b=variant(x=T)), record(c=nat(1), b=variant(x=T, y=T), a=nat(2), d=maybe(T))
        paper = ((old, new, ("record", ((-1, -1, 1), (1, 1, None), (0, 3, None), (-1, -1, ())))),
                 (variant(x=T), variant(x=T, y=T), ("variant", ((0, 2),))), TRUTHS, (nat(1), nat(2), ("number",)))
        self.assertIsNone(growfault((), (), paper))
        olds = [(a, ("x", b)) for a in range(2) for b in (True, False)]
        news = [(c, (name, b), a, d) for c in range(2) for name in "xy" for b in (True, False) for a in range(4)
                for d in ((), (True,), (False,))]
        reached = [grown(paper, worth) for worth in olds]
        for worth in news:
            if worth in reached:
                self.assertEqual(shrunk(paper, worth), olds[reached.index(worth)])
            else:
                self.assertEqual(refusal(shrunk, paper, worth)[0], "NotShrunk")


class ChainedTest(unittest.TestCase):
    def told(self, one, other, worths, book=(), fault=None):
        paper = chained(one, other)
        self.assertEqual(growfault(book, book, paper), fault)
        self.assertTrue(alike(paper, chained(one, other)))
        self.assertTrue(alike(paper[0][:2], (one[0][0], other[0][1])))
        for worth in worths:
            due = grown(other, grown(one, worth))
            self.assertTrue(alike(grown(paper, worth), due))
            self.assertTrue(alike(shrunk(paper, due), worth))
        return paper

    def test_each_step(self):
        third = record(e=maybe(T), g=T, z=nat(17), b=variant(y=nat(17), x=T, w=NONE, v=T), c=row(5, nat(17)),
                       d=maybe(maybe(T)), f=maybe(NONE))
        other = (
            (NEW, third, ("record", ((5, 1, None), (-1, -1, True), (2, 3, None), (0, 4, None), (3, 5, None),
                                     (4, 6, None), (1, 7, None)))),
            (maybe(T), maybe(T), ("maybe", 2)), TRUTHS, (N16, nat(17), ("number",)),
            (NEW[1][0][1], third[1][3][1], ("variant", ((2, 8), (0, 3), (1, 2)))),
            (row(4, N16), row(5, nat(17)), ("row", 3, (9,))), (maybe(T), maybe(maybe(T)), ("some", 1)),
            (NONE, maybe(NONE), ("some", 8)), (NONE, NONE, ("record", ())))
        self.assertIsNone(growfault((), (), other))
        worths = (WORTH, (0, ("y", 255), (0, 0), (), False))
        paper = self.told(PAPER, other, worths)
        self.assertEqual(grown(paper, WORTH), ((True,), True, 5, ("x", True), (1, 2, 7, 8, 9), ((False,),), ((),)))

    def test_fresh_worths_are_grown(self):
        one = ((NONE, record(a=N8), ("record", ((-1, -1, 7),))),)
        other = ((record(a=N8), record(b=T, a=maybe(N16)), ("record", ((-1, -1, True), (0, 1, None)))),
                 (N8, maybe(N16), ("some", 2)), NUMBERS)
        paper = self.told(one, other, ((),))
        self.assertEqual(paper, ((NONE, record(b=T, a=maybe(N16)), ("record", ((-1, -1, True), (-1, -1, (7,))))),))
        one = ((row(1, N8), row(2, N8), ("row", 1, (3,))), (N8, N8, ("number",)))
        other = ((row(2, N8), row(4, maybe(N16)), ("row", 1, ((), (8,)))), (N8, maybe(N16), ("some", 2)), NUMBERS)
        paper = self.told(one, other, ((5,),))
        self.assertEqual(grown(paper, (5,)), ((5,), (3,), (), (8,)))
        self.assertEqual(paper[0][2][2], ((3,), (), (8,)))

    def test_fresh_worths_that_are_too_great_by_then(self):
        small = row(7, row(7, T))
        wide = row(7, row(8, T))
        fresh = ((True,) * 7,) * 7
        one = ((NONE, record(a=small), ("record", ((-1, -1, fresh),))),)
        other = ((record(a=small), record(a=wide), ("record", ((0, 1, None),))), (small, wide, ("row", 2, ())),
                 (row(7, T), row(8, T), ("row", 3, (False,))), TRUTHS)
        for paper in (one, other):
            self.assertIsNone(growfault((), (), paper))
        paper = self.told(one, other, ((),), fault=(0, "worth"))
        self.assertEqual(grown(paper, ()), (((True,) * 7 + (False,),) * 7,))

    def test_somes(self):
        """A some step behind, ahead of, and beside others."""
        some = ((N8, maybe(N16), ("some", 1)), NUMBERS)
        more = ((N16, nat(20), ("number",)),)
        inner = ((maybe(N16), maybe(nat(20)), ("maybe", 1)),) + more
        self.told(some, inner, (5,))
        self.told((NUMBERS,), ((N16, maybe(nat(20)), ("some", 1)),) + more, (5,))
        self.told(((maybe(N8), maybe(N16), ("maybe", 1)), NUMBERS), ((maybe(N16), maybe(maybe(nat(20))), ("some", 1)),
                                                                    (maybe(N16), maybe(nat(20)), ("maybe", 2))) + more,
                  ((), (5,)))

    def test_some_that_leads_to_some(self):
        some = ((N8, maybe(N16), ("some", 1)), NUMBERS)
        more = ((N16, nat(20), ("number",)),)
        outer = ((maybe(N16), maybe(maybe(nat(20))), ("some", 1)), (maybe(N16), maybe(nat(20)), ("maybe", 2))) + more
        self.assertEqual(refusal(chained, some, outer), ("NoGrowth", (), "some"))
        inner = ((maybe(N16), maybe(maybe(nat(20))), ("maybe", 1)), (N16, maybe(nat(20)), ("some", 2))) + more
        self.assertEqual(refusal(chained, some, inner), ("NoGrowth", (), "some"))
        # The same within a record.
        first = ((record(a=N8), record(a=maybe(N16)), ("record", ((0, 1, None),))), (N8, maybe(N16), ("some", 2)),
                 NUMBERS)
        second = ((record(a=maybe(N16)), record(a=maybe(maybe(nat(20)))), ("record", ((0, 1, None),))),
                  (maybe(N16), maybe(maybe(nat(20))), ("some", 2)), (maybe(N16), maybe(nat(20)), ("maybe", 3))) + more
        for paper in (first, second):
            self.assertIsNone(growfault((), (), paper))
        self.assertEqual(refusal(chained, first, second), ("NoGrowth", (), "some"))

    def test_between(self):
        self.assertEqual(refusal(chained, (NUMBERS,), (NUMBERS,)), ("NoGrowth", (), "between"))
        self.assertEqual(refusal(chained, PAPER, PAPER), ("NoGrowth", (), "between"))
        self.assertEqual(refusal(chained, (NUMBERS,), (TRUTHS,)), ("NoGrowth", (), "between"))

    def test_many(self):
        """Two rings of rows: pair (i, j) goes on to (i + 1, j + 1), until both rings are through at once."""
        kind = maybe(box(use("chain")))
        for one, other, met in ((7, 9, 63), (7, 8, 56), (6, 10, 30), (5, 12, 60), (1, 60, 60), (60, 60, 60), (8, 8, 8),
                                (59, 2, 118), (4, 15, 60), (3, 20, 60)):
            first = tuple((kind, kind, ("maybe", (number + 1) % one)) for number in range(one))
            second = tuple((kind, kind, ("maybe", (number + 1) % other)) for number in range(other))
            for paper in (first, second):
                self.assertIsNone(growfault(BOXES, BOXES, paper))
            if met > 60:
                self.assertEqual(refusal(chained, first, second), ("NoGrowth", (), "many"))
            else:
                paper = self.told(first, second, ((), ((),), (((),),)), BOXES)
                self.assertEqual(len(paper), met)

    def test_the_first_pair_in_preorder(self):
        """A some step behind more than sixty pairs is not met, and one ahead of them is."""
        kind = maybe(box(use("chain")))
        first = tuple((kind, kind, ("maybe", (number + 1) % 7)) for number in range(7))
        second = tuple((kind, kind, ("maybe", (number + 1) % 9)) for number in range(9))
        some = ((N8, maybe(N16), ("some", 1)), NUMBERS)
        outer = ((maybe(N16), maybe(maybe(N16)), ("some", 1)), (maybe(N16), maybe(N16), ("maybe", 2)),
                 (N16, N16, ("number",)))

        def further(rows, by):
            return tuple((old, new, tuple(thing + by if type(thing) is int else thing for thing in step))
                         for old, new, step in rows)

        for fields, due in (((0, 1), "many"), ((1, 0), "some")):
            # Old fields a, b; the chain in a, the number in b; the other's new fields in either order.
            chain_first = record(a=kind, b=N8), record(a=kind, b=maybe(N16))
            one = ((*chain_first, ("record", ((0, 1, None), (1, 8, None)))),) + further(first, 1) + further(some, 8)
            kinds = [("a", kind), ("b", maybe(maybe(N16)))]
            links = [(0, 1, None), (1, 10, None)]
            other = ((chain_first[1], ("record", tuple(kinds[each] for each in fields)),
                      ("record", tuple(links[each] for each in fields))),) + further(second, 1) + further(outer, 10)
            for paper in (one, other):
                self.assertIsNone(growfault(BOXES, BOXES, paper))
            self.assertEqual(refusal(chained, one, other), ("NoGrowth", (), due))

    def test_random_chains(self):
        dice = random.Random(132)
        looked = 0
        while looked < 150:
            kind = random_kind(dice)
            one = grown_pair(dice, kind)
            two = None if one is None else grown_pair(dice, one[0])
            if two is None or refusal(growth, BOOK, kind, BOOK, one[0], renamed=one[1]) is not None:
                continue
            if refusal(growth, BOOK, one[0], BOOK, two[0], renamed=two[1]) is not None:
                continue
            first = growth(BOOK, kind, BOOK, one[0], renamed=one[1])
            second = growth(BOOK, one[0], BOOK, two[0], renamed=two[1])
            try:
                worths = [random_worth(dice, BOOK, kind, dice.randint(0, 3)) for each in range(3)]
            except ValueError:
                continue
            if refusal(chained, first, second) is None:
                looked += 1
                self.told(first, second, worths, BOOK)


if __name__ == "__main__":
    unittest.main()
