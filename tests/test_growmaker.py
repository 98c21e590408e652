"""The maker of papers of growth: I5."""

import random
import unittest

from packedforms.growcheck import growfault
from packedforms.growmaker import growth
from packedforms.growth import grown, shrunk
from packedforms.kinds import alike
from packedforms.needs import plainest
from packedforms.worths import misfit
from tests.growing import grown_by_hand, grown_pair
from tests.test_growcheck import NEW, OLD
from tests.test_paths import SOME, arm, at, field
from tests.test_store import numbers
from tests.things import (BOXES, I8, LIST, LIST8, N8, N16, NONE, T, THIRTEEN, TWELVE, box, hole, maybe, nat, record,
                          refusal, row, use, variant, whole)
from tests.worlds import BOOK, random_kind, random_worth


class GrowthTest(unittest.TestCase):
    def paper(self, one, other, old=BOXES, new=BOXES, renamed=()):
        paper = growth(old, one, new, other, renamed=renamed)
        self.assertIsNone(growfault(old, new, paper))
        self.assertTrue(alike(paper, growth(old, one, new, other, renamed=renamed)))
        return paper

    def grows(self, one, other, worth, due, old=BOXES, new=BOXES, renamed=()):
        paper = self.paper(one, other, old, new, renamed)
        self.assertIsNone(misfit(old, one, worth))
        self.assertIsNone(misfit(new, other, due))
        self.assertTrue(alike(grown(paper, worth), due), grown(paper, worth))
        self.assertTrue(alike(shrunk(paper, due), worth))

    def refused(self, one, other, path, why, old=BOXES, new=BOXES, renamed=()):
        self.assertEqual(refusal(growth, old, one, new, other, renamed=renamed), ("NoGrowth", path, why))

    def test_plain_kinds(self):
        self.assertEqual(self.paper(T, T), ((T, T, ("truth",)),))
        self.assertEqual(self.paper(N8, N16), ((N8, N16, ("number",)),))
        self.assertEqual(self.paper(N8, whole(9)), ((N8, whole(9), ("number",)),))
        self.assertEqual(self.paper(NONE, NONE), ((NONE, NONE, ("record", ())),))

    def test_a_whole_paper(self):
        """Row 0 is that of the roots; each pair has one row."""
        one, other = record(a=N8, b=N8, c=T), record(c=T, d=row(2, N8), b=N16, a=N16)
        paper = self.paper(one, other)
        self.assertEqual(paper[0][:2], (one, other))
        self.assertEqual(len(paper), 3)
        fields = paper[0][2][1]
        self.assertEqual([each[0] for each in fields], [2, -1, 1, 0])
        self.assertEqual(fields[1], (-1, -1, (0, 0)))
        self.assertEqual(fields[2][1], fields[3][1])
        self.assertEqual(paper[fields[0][1]], (T, T, ("truth",)))
        self.assertEqual(paper[fields[2][1]], (N8, N16, ("number",)))

    def test_fields_of_the_same_names(self):
        self.grows(record(a=N8, b=T), record(b=T, a=N16), (5, True), (True, 5))
        self.grows(NONE, record(a=N8, b=T, c=maybe(T), d=variant(x=box(T), y=N8)), (), (0, False, (), ("y", 0)))

    def test_arms_of_the_same_names(self):
        one, other = variant(a=N8, b=T), variant(c=NONE, b=T, a=N16)
        self.grows(one, other, ("a", 5), ("a", 5))
        self.grows(one, other, ("b", True), ("b", True))

    def test_renamed(self):
        one = record(a=N8, b=variant(a=T, x=N8))
        other = record(z=N16, b=variant(x=N8, z=T))
        self.grows(one, other, (5, ("a", True)), (5, ("z", True)), renamed=(("a", "z"),))
        # The first pair with the name counts, and names that aren't there count for nothing.
        self.grows(one, other, (5, ("x", 7)), (5, ("x", 7)), renamed=(("q", "a"), ("a", "z"), ("a", "b"), ("x", "x")))
        self.refused(one, other, (), "gone", renamed=(("a", "q"), ("a", "z")))
        # Two that change their names.
        self.grows(record(a=T, b=N8), record(a=N8, b=T), (True, 5), (5, True), renamed=(("a", "b"), ("b", "a")))

    def test_rows_and_maybes(self):
        self.grows(row(2, N8), row(4, N16), (1, 2), (1, 2, 0, 0))
        self.grows(row(2, N8), row(2, N8), (1, 2), (1, 2))
        self.grows(maybe(N8), maybe(N16), (5,), (5,))
        self.grows(maybe(N8), maybe(N16), (), ())
        self.grows(maybe(maybe(T)), maybe(maybe(T)), ((),), ((),))

    def test_somes(self):
        for kind, worth in ((N8, 5), (T, True), (record(a=T), (True,)), (variant(a=T), ("a", True)),
                            (row(2, T), (True, False))):
            self.grows(kind, maybe(kind), worth, (worth,))
            self.grows(kind, box(maybe(box(kind))), worth, (worth,))
            self.grows(record(x=kind), record(x=maybe(kind)), (worth,), ((worth,),))

    def test_a_maybe_is_none_by_a_some_step(self):
        # Both are maybes, so that what is in them grows: a truth to a maybe.
        self.grows(maybe(T), maybe(maybe(T)), (True,), ((True,),))
        self.grows(maybe(T), maybe(maybe(T)), (), ())

    def test_uses_and_boxes(self):
        for one in (T, box(T), use("one", T), TWELVE):
            for other in (T, box(T), use("one", T), TWELVE):
                self.grows(one, other, True, True)
                self.grows(record(a=one), record(a=other), (True,), (True,))

    def test_kinds_that_name_themselves(self):
        cell = record(tail=box(use("list", hole("a"))), more=maybe(T), head=hole("a"))
        book = (("list", ("a",), variant(cons=cell, both=NONE, nil=NONE)),)
        paper = self.paper(LIST8, use("list", N16), LIST, book)
        self.assertEqual(len(paper), 4)
        self.assertEqual(grown(paper, numbers(1, 2)), ("cons", (("cons", (("nil", ()), (), 2)), (), 1)))
        self.grows(use("tree"), use("tree"), ("fork", (("leaf", 1), ("leaf", 2))), ("fork", (("leaf", 1), ("leaf", 2))))

    def test_no_step_fits(self):
        for one, other in ((N8, nat(7)), (I8, N8), (I8, nat(64)), (N8, whole(8)), (I8, whole(7)), (T, N8), (N8, T),
                           (record(a=T), variant(a=T)), (variant(a=T), record(a=T)), (row(2, T), row(1, T)),
                           (row(2, T), record(a=T)), (maybe(T), T), (maybe(T), record(a=T)), (T, NONE),
                           (NONE, row(1, T))):
            self.refused(one, other, (), "kind")
            self.refused(box(one), box(other), (), "kind")
            self.refused(record(a=T, x=one), record(x=other, a=T), (field("x"),), "kind")
            self.refused(variant(a=T, x=one), variant(x=other, a=T), (arm("x"),), "kind")
            self.refused(row(2, one), row(2, other), (at(0),), "kind")
            self.refused(maybe(one), maybe(other), (SOME,), "kind")
            if one[0] != "maybe":
                self.refused(one, maybe(other), (), "kind")

    def test_some_that_leads_to_some(self):
        self.refused(T, maybe(maybe(T)), (), "kind")
        self.refused(T, maybe(box(maybe(T))), (), "kind")
        self.refused(record(a=N8), record(a=maybe(maybe(N8))), (field("a"),), "kind")
        self.refused(maybe(T), maybe(maybe(maybe(T))), (SOME,), "kind")

    def test_what_cannot_be_seen(self):
        self.refused(THIRTEEN, T, (), "kind")
        self.refused(T, THIRTEEN, (), "kind")
        self.refused(THIRTEEN, THIRTEEN, (), "kind")
        self.refused(record(a=THIRTEEN), record(a=T), (), "kind")
        self.refused(record(a=T), record(a=THIRTEEN), (), "kind")
        self.refused(record(a=T), record(a=T, b=THIRTEEN), (), "kind")
        self.refused(record(b=T, a=THIRTEEN), record(b=N8), (), "kind")
        self.refused(variant(a=T, b=THIRTEEN), variant(a=T, b=THIRTEEN), (), "kind")
        self.refused(variant(a=T), variant(a=T, b=THIRTEEN), (), "kind")
        self.refused(row(2, THIRTEEN), row(2, T), (), "kind")
        self.refused(row(2, T), row(2, THIRTEEN), (), "kind")
        self.refused(maybe(T), maybe(THIRTEEN), (), "kind")
        self.refused(maybe(THIRTEEN), maybe(T), (), "kind")
        self.refused(T, maybe(THIRTEEN), (), "kind")
        # Ahead of what is in the pair: the pair to which a some step leads is another one.
        self.refused(record(a=T, b=THIRTEEN), maybe(record(a=N8)), (), "kind")
        self.refused(record(x=T, a=THIRTEEN), maybe(record(x=T, a=T)), (), "kind")
        self.refused(record(x=N8, y=record(a=THIRTEEN)), record(x=N8, y=maybe(record(a=T))), (field("y"),), "kind")

    def test_gone(self):
        for word in (record, variant):
            step = field if word is record else arm
            self.refused(word(a=T, b=T), word(a=T), (), "gone")
            self.refused(word(a=T, b=T), word(a=T, c=T), (), "gone")
            self.refused(word(a=T, b=T), word(a=T, b=T), (), "gone", renamed=(("a", "b"),))
            self.refused(word(a=T, b=T), word(a=T, b=T), (), "gone", renamed=(("a", "c"),))
            self.refused(word(a=T, b=T), word(c=T), (), "gone", renamed=(("a", "c"), ("b", "c")))
            self.refused(record(x=N8, y=word(a=T)), record(y=word(b=T), x=N8), (field("y"),), "gone")
            self.refused(word(a=T, b=T, c=word(d=T)), word(a=T, b=T, c=word(e=T)), (step("c"),), "gone")

    def test_first(self):
        self.refused(NONE, record(a=use("void")), (), "first")
        self.refused(row(1, use("void")), row(2, use("void")), (), "first")
        self.assertIsNone(refusal(growth, BOXES, row(1, use("void")), BOXES, row(1, use("void"))))
        self.assertIsNone(refusal(growth, BOXES, variant(a=T), BOXES, variant(a=T, b=use("void"))))
        for kind, fits in ((row(7, row(7, N8)), True), (row(7, row(8, N8)), False), (row(14, T), True),
                           (row(10, row(4, T)), True), (box(T, 4), True), (box(T, 5), False),
                           (use("six", T), False), (maybe(use("six", T)), True)):
            due = None if fits else ("NoGrowth", (), "first")
            self.assertEqual(refusal(growth, BOXES, NONE, BOXES, record(x=kind)), due)
            self.assertEqual(refusal(growth, BOXES, row(1, kind), BOXES, row(2, kind)), due)
        self.refused(record(a=NONE), record(a=record(x=use("void"))), (field("a"),), "first")
        thousand = row(9, box(row(11, row(11, N8))))
        self.refused(NONE, record(x=thousand), (), "first")

    def test_worths_of_just_60_parts(self):
        small = row(7, row(7, T))
        for more, fits in ((2, True), (3, False)):
            kind = ("record", (("a", small),) + tuple(("bcd"[each], T) for each in range(more)))
            self.assertEqual(refusal(growth, (), NONE, (), record(x=kind)), None if fits else ("NoGrowth", (), "first"))

    def test_the_order_of_the_words_at_one_pair(self):
        # Gone and first, with and without a part that can't be seen.
        self.refused(record(a=T), record(b=use("void")), (), "gone")
        self.refused(record(a=T), record(b=use("void"), c=THIRTEEN), (), "kind")
        self.refused(record(a=THIRTEEN), record(b=use("void")), (), "kind")
        self.refused(record(a=N8), record(a=T, b=use("void")), (), "first")

    def test_the_first_pair_in_preorder_of_the_old_kind(self):
        one = record(a=record(x=N8, y=N8), b=T, c=N8)
        self.refused(one, record(c=T, b=N8, a=record(y=T, x=T)), (field("a"), field("x")), "kind")
        self.refused(one, record(c=T, b=N8, a=record(y=T, x=N8)), (field("a"), field("y")), "kind")
        self.refused(one, record(c=T, b=N8, a=record(y=N8, x=N8)), (field("b"),), "kind")
        self.refused(one, record(c=T, b=T, a=record(y=N8, x=N8)), (field("c"),), "kind")
        self.refused(one, record(c=T, b=N8, a=record(x=N8)), (field("a"),), "gone")
        self.refused(row(3, one), row(3, record(c=T, b=N8, a=record(x=N8))), (at(0), field("a")), "gone")
        self.refused(maybe(one), maybe(record(c=T, b=T, a=record(y=N8, x=N8))), (SOME, field("c")), "kind")
        # By a some step the path stays.
        self.refused(one, maybe(record(c=T, b=T, a=record(y=N8, x=N8))), (field("c"),), "kind")

    def test_each_pair_is_met_once(self):
        """The second place at which a pair stands is never told."""
        one, other = record(a=record(x=N8), b=record(x=N8)), record(b=record(x=T), a=record(x=T))
        self.refused(one, other, (field("a"), field("x")), "kind")
        same = record(a=use("tree"), b=use("tree"))
        self.assertEqual(len(self.paper(same, same)), 4)

    def ring(self, many):
        """A book of a ring of so many kinds, and the first of them."""
        names = "abcdefghijkl"[:many]
        following = names[1:] + names[:1]
        return tuple((name, (), maybe(box(use(after)))) for name, after in zip(names, following)), use("a")

    def test_many(self):
        for one, other, met in ((7, 9, 63), (7, 8, 56), (5, 12, 60), (12, 5, 60), (9, 7, 63), (12, 11, 132), (3, 6, 6)):
            old, kind = self.ring(one)
            new, goal = self.ring(other)
            if met > 60:
                self.refused(kind, goal, (SOME,) * 60, "many", old, new)
            else:
                self.assertEqual(len(self.paper(kind, goal, old, new)), met)

    def test_many_goes_ahead_of_the_other_words(self):
        """A ring of 60 pairs, and one more that couldn't grow anyway."""
        old, new = self.ring(5)[0], self.ring(12)[0]
        ahead = record(x=N8, a=use("a")), record(x=T, a=use("a"))
        self.refused(*ahead, (field("x"),), "kind", old, new)
        # The record itself is a pair, so that the last of the ring is the 61st.
        behind = record(a=use("a"), x=N8), record(a=use("a"), x=T)
        self.refused(*behind, (field("a"),) + (SOME,) * 59, "many", old, new)
        # A ring of 59 pairs can't be; one of 56, the record and three numbers are just 60, whatever the 61st is.
        old, new = self.ring(7)[0], self.ring(8)[0]
        names = {"a": use("a"), "b": nat(1), "c": nat(2), "d": nat(3)}
        for last in ({"e": N8}, {"e": record(a=T)}):
            one, other = record(**names, **last), record(**names, e=T)
            self.refused(one, other, (field("e"),), "many", old, new)
        self.assertEqual(len(self.paper(record(**names), record(**names), old, new)), 60)

    def test_a_some_step_asks_for_the_new_part_alone(self):
        """The 60th pair is by a some step, and the old one's part that can't be seen is that of the 61st."""
        old, new = self.ring(7)[0] + BOXES[:2], self.ring(8)[0]
        names = {"a": use("a"), "b": nat(1), "c": nat(2)}
        one, other = record(**names, e=record(x=THIRTEEN)), record(**names, e=maybe(record(x=T)))
        self.refused(one, other, (field("e"),), "many", old, new)
        del names["c"]
        one, other = record(**names, e=record(x=THIRTEEN)), record(**names, e=maybe(record(x=T)))
        self.refused(one, other, (field("e"),), "kind", old, new)

    def test_both_ways_of_a_book(self):
        self.assertIsNone(growfault((), (), growth((), OLD, (), NEW, renamed=(("a", "z"),))))
        worth = (5, ("x", True), (1, 2), (False,), True)
        paper = growth((), OLD, (), NEW, renamed=(("a", "z"),))
        self.assertEqual(grown(paper, worth), (("x", True), (), 5, (1, 2, 0, 0), (False,), (True,)))

    def test_random_kinds(self):
        dice = random.Random(141)
        fits = 0
        for each in range(300):
            kind = random_kind(dice)
            pair = grown_pair(dice, kind)
            if pair is None:
                continue
            told = refusal(growth, BOOK, kind, BOOK, pair[0], renamed=pair[1])
            if told is not None:
                self.assertEqual(told[0], "NoGrowth")
                continue
            fits += 1
            paper = self.paper(kind, pair[0], BOOK, BOOK, pair[1])
            try:
                worth = random_worth(dice, BOOK, kind, 3)
            except ValueError:
                continue
            self.assertTrue(alike(grown(paper, worth), grown_by_hand(paper, worth)))
        self.assertGreater(fits, 250)

    def test_random_pairs(self):
        """Kinds that were made apart: either a paper that is let by, or a refusal at a path of the old kind."""
        dice = random.Random(142)
        words = set()
        for each in range(600):
            one, other = random_kind(dice, 2), random_kind(dice, 2)
            told = refusal(growth, BOOK, one, BOOK, other)
            if told is None:
                self.paper(one, other, BOOK, BOOK)
            else:
                words.add(told[2])
        self.assertGreaterEqual(words, {"kind", "gone"})

    def test_fresh_worths_are_plainest(self):
        for kind in (LIST8, use("tree"), variant(x=box(T), y=box(T)), record(a=maybe(N8), b=row(3, T)), box(box(N8))):
            paper = self.paper(NONE, record(x=kind), BOOK, BOOK)
            self.assertEqual(paper[0][2][1], ((-1, -1, plainest(BOOK, kind)),))


if __name__ == "__main__":
    unittest.main()
