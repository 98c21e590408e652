"""Needs, papers of needs and plainest worths: B3."""

import functools
import unittest

from packedforms.books import parts
from packedforms.needs import MOST_BOXES, MOST_WORTH, needfault, needs, plainest
from packedforms.reaches import checked, reach
from packedforms.worths import deepness, misfit, sizeof
from tests.things import (BOXES, HEIGHT_10, HEIGHT_11, HIGH_BOOK, I8, LIST, LIST8, N8, NONE, NO_THINGS, PARTS_1000,
                          SPAN_400, T, THIRTEEN, TWELVE, WRONG_BOOK, box, hole, maybe, nat, record, refusal, row, use,
                          variant)

KINDS = ([((), kind) for kind in (N8, I8, T, NONE, maybe(box(T)), box(T), record(a=box(T), b=N8, c=box(box(N8))),
                                  row(3, box(N8)), variant(a=box(T), b=box(box(T))), variant(a=box(T), b=T),
                                  PARTS_1000, SPAN_400, variant(a=row(2, box(T)), b=box(T), c=maybe(T)))]
         + [(BOXES, kind) for kind in (TWELVE, THIRTEEN, use("chain"), use("void"), use("tree"), use("late"),
                                       record(x=THIRTEEN, y=T), variant(x=THIRTEEN, y=TWELVE), maybe(THIRTEEN),
                                       variant(x=use("void")), box(TWELVE), use("one", use("void")),
                                       variant(x=use("void"), y=THIRTEEN), row(2, use("void")))]
         + [(LIST, LIST8), (LIST, box(LIST8)), (HIGH_BOOK, HEIGHT_10)])


@functools.cache
def has_worth(book, kind, boxes):
    """Whether a kind has a worth with at most so many boxes within one another."""
    inner = parts(book, kind)
    if kind[0] == "maybe":
        return True
    if kind[0] == "box":
        return boxes > 0 and has_worth(book, inner[0], boxes - 1)
    if kind[0] == "variant":
        return any(has_worth(book, each, boxes) for each in inner)
    return all(has_worth(book, each, boxes) for each in inner)


def slow_need(book, kind):
    return min([boxes for boxes in range(13) if has_worth(book, kind, boxes)], default=13)


class NeedsTest(unittest.TestCase):
    def test_limits(self):
        self.assertEqual((MOST_BOXES, MOST_WORTH), (12, 1000))

    def test_each_word(self):
        for kind in (N8, I8, T, NONE, maybe(box(T)), SPAN_400):
            self.assertEqual(needs((), kind)[0], 0)
        self.assertEqual(needs((), box(T)), (1, 0))
        self.assertEqual(needs((), record(a=box(T), b=N8, c=box(box(N8)))), (2, 1, 0, 0, 2, 1))
        self.assertEqual(needs((), row(3, box(N8))), (1, 1, 0))
        self.assertEqual(needs((), variant(a=box(T), b=box(box(T)))), (1, 1, 0, 2))
        self.assertEqual(needs(LIST, LIST8), (0, 0, 0, 1, 0, 1))
        self.assertEqual(needs(BOXES, use("one", T)), (1, 1, 0))

    def test_kinds_that_name_themselves(self):
        self.assertEqual(needs(BOXES, use("chain"))[0], 0)
        self.assertEqual(needs(BOXES, use("void")), (13, 13, 0, 13))
        self.assertEqual(needs(BOXES, use("late"))[0], 1)

    def test_twelve_and_thirteen(self):
        self.assertEqual(needs(BOXES, TWELVE)[0], 12)
        self.assertEqual(needs(BOXES, THIRTEEN)[0], 13)
        self.assertEqual(needs(BOXES, box(THIRTEEN))[0], 13)

    def test_by_trying(self):
        for book, kind in KINDS:
            self.assertEqual(needs(book, kind), tuple(slow_need(book, each) for each in reach(book, kind)))

    def test_refusals(self):
        for call in (needs, plainest):
            self.assertEqual(refusal(call, WRONG_BOOK, None), ("BadBook", (0, 0), "name"))
            self.assertEqual(refusal(call, (), nat(0)), ("BadKind", (1,), "bits"))
            self.assertEqual(refusal(call, HIGH_BOOK, HEIGHT_11), ("TooMany", HEIGHT_11))
            self.assertEqual(refusal(call, (("a", (), use("a")),), use("a")), ("Endless", (use("a"), use("a"))))
            self.assertEqual(refusal(call, (), maybe(SPAN_400)), ("TooGreat", maybe(SPAN_400)))
        self.assertEqual(checked(BOXES, use("void")), use("void"))


class NeedFaultTest(unittest.TestCase):
    def test_papers_of_needs(self):
        for book, kind in KINDS:
            paper = tuple(zip(reach(book, kind), needs(book, kind)))
            self.assertIsNone(needfault(book, paper))
            self.assertIsNone(needfault(book, paper[::-1]))
            self.assertIsNone(needfault(book, paper + paper))
            self.assertIsNone(needfault(book, tuple((each, 0) for each, number in paper)))
            self.assertIsNone(needfault(book, tuple((each, max(0, number - 1)) for each, number in paper)))
        self.assertIsNone(needfault((), ()))

    def test_one_more(self):
        for book, kind in KINDS:
            paper = tuple(zip(reach(book, kind), needs(book, kind)))
            for k, (each, number) in enumerate(paper):
                bent = paper[:k] + ((each, number + 1),) + paper[k + 1:]
                self.assertEqual(needfault(book, bent), (k, "number" if number == 13 else "part"))

    def test_numbers(self):
        for number in (14, -1, True, False, None, "0", (0,), 10 ** 40):
            self.assertEqual(needfault((), ((N8, 0), (T, number))), (1, "number"))
        self.assertEqual(needfault((), ((T, 13),)), (0, "part"))
        self.assertIsNone(needfault((), ((T, 0),)))

    def test_parts_in_no_row_count_nought(self):
        self.assertIsNone(needfault((), ((box(T), 1),)))
        self.assertEqual(needfault((), ((box(box(T)), 2),)), (0, "part"))
        self.assertIsNone(needfault((), ((box(box(T)), 2), (box(T), 1))))
        self.assertEqual(needfault((), ((variant(a=box(T), b=box(N8)), 1), (box(T), 1))), (0, "part"))
        self.assertIsNone(needfault((), ((variant(a=box(T), b=box(N8)), 1), (box(T), 1), (box(N8), 1))))
        self.assertIsNone(needfault((), ((record(a=box(T), b=box(N8)), 1), (box(T), 1))))
        self.assertEqual(needfault((), ((maybe(box(T)), 1), (box(T), 1))), (0, "part"))
        self.assertEqual(needfault((), ((NONE, 1),)), (0, "part"))

    def test_parts_in_several_rows_count_most(self):
        self.assertIsNone(needfault((), ((box(box(T)), 2), (box(T), 1), (box(T), 0))))
        self.assertIsNone(needfault((), ((box(box(T)), 2), (box(T), 0), (box(T), 1))))
        self.assertEqual(needfault((), ((box(box(T)), 2), (box(T), 0), (box(T), 0))), (0, "part"))
        self.assertEqual(needfault((), ((box(T), 1), (box(T), 2))), (1, "part"))

    def test_thirteen_needs_no_end(self):
        kind = use("void")
        self.assertIsNone(needfault(BOXES, tuple(zip(reach(BOXES, kind), (13, 13, 0, 13)))))
        self.assertIsNone(needfault(BOXES, tuple(zip(reach(BOXES, kind), (5, 5, 0, 6)))))
        self.assertEqual(needfault(BOXES, tuple(zip(reach(BOXES, kind), (6, 5, 0, 6)))), (0, "part"))

    def test_book_paper_and_rows(self):
        for book in NO_THINGS + (WRONG_BOOK,):
            if book != ():
                self.assertEqual(needfault(book, None), (0, "book"))
        for thing in (None, True, 0, "ab"):
            self.assertEqual(needfault((), thing), (0, "paper"))
        for thing in (None, 0, "ab", (), (T,), (T, 0, 0)):
            self.assertEqual(needfault((), ((box(T), 2), thing)), (1, "row"))
        for thing in (None, nat(0), hole("a"), use("a"), maybe(T, 8)):
            self.assertEqual(needfault((), ((box(T), 2), (thing, -1))), (1, "kind"))

    def test_first_of_several(self):
        self.assertEqual(needfault((), ((box(T), 2), (T, -1))), (1, "number"))
        self.assertEqual(needfault((), ((N8, 0), (box(T), 3), (T, 1))), (1, "part"))
        self.assertEqual(needfault((), ((None, None), None)), (0, "kind"))


class PlainestTest(unittest.TestCase):
    def test_each_word(self):
        for kind, worth in ((N8, 0), (I8, 0), (T, False), (NONE, ()), (maybe(N8), ()), (maybe(maybe(T)), ()),
                            (record(a=N8, b=T, c=maybe(T)), (0, False, ())), (row(3, T), (False, False, False)),
                            (box(N8), 0), (variant(a=N8, b=T), ("a", 0)), (record(a=NONE), ((),))):
            told = plainest((), kind)
            self.assertEqual(repr(told), repr(worth))
        self.assertEqual(plainest(LIST, LIST8), ("nil", ()))
        self.assertEqual(plainest(BOXES, use("one", record(a=T, b=use("chain")))), (False, ()))

    def test_first_arm_of_those_that_need_least(self):
        self.assertEqual(plainest((), variant(a=box(T), b=N8, c=T)), ("b", 0))
        self.assertEqual(plainest((), variant(a=box(box(T)), b=box(N8), c=box(T))), ("b", 0))
        self.assertEqual(plainest(BOXES, use("tree")), ("leaf", 0))
        self.assertEqual(plainest(BOXES, use("late")), ("near", False))
        self.assertEqual(plainest(BOXES, variant(x=use("void"), y=maybe(use("void")))), ("y", ()))
        self.assertEqual(plainest(BOXES, box(use("late"))), ("near", False))

    def test_it_is_a_worth_with_as_many_boxes_as_needed(self):
        for book, kind in KINDS:
            need = needs(book, kind)[0]
            if need < 13:
                worth = plainest(book, kind)
                self.assertIsNone(misfit(book, kind, worth))
                self.assertEqual(deepness(book, kind, worth), need)
                if need > 0:
                    self.assertIsNotNone(misfit(book, kind, worth, boxes=need - 1))

    def test_hollow(self):
        for book, kind in KINDS:
            if needs(book, kind)[0] == 13:
                name, paper = refusal(plainest, book, kind)
                self.assertEqual(name, "Hollow")
                self.assertEqual(paper[0], (kind, 13))
                self.assertIsNone(needfault(book, paper))

    def test_hollow_goes_ahead_of_too_great(self):
        kind = record(a=PARTS_1000, b=use("void"))
        self.assertEqual(refusal(plainest, BOXES, kind)[0], "Hollow")

    def test_thousand_parts(self):
        self.assertEqual(sizeof((), PARTS_1000, plainest((), PARTS_1000)), 1000)
        self.assertEqual(refusal(plainest, (), record(a=PARTS_1000)), ("TooGreat", record(a=PARTS_1000)))
        self.assertEqual(refusal(plainest, (), box(record(a=PARTS_1000))), ("TooGreat", box(record(a=PARTS_1000))))
        self.assertEqual(plainest((), variant(a=PARTS_1000, b=T, c=N8))[0], "b")
        self.assertEqual(refusal(plainest, (), variant(a=PARTS_1000)), ("TooGreat", variant(a=PARTS_1000)))
        self.assertEqual(plainest((), maybe(record(a=PARTS_1000))), ())
        self.assertEqual(plainest((), box(PARTS_1000)), plainest((), PARTS_1000))

    def test_parts_that_are_counted(self):
        book = (("flag", (), T),)
        for many, kind in ((10, maybe(N8)), (10, use("flag")), (10, box(T)), (5, variant(a=T, b=N8)), (5, record(a=T)),
                           (10, NONE), (5, variant(a=N8))):
            kind = row(9, box(row(10, row(many, kind))))
            self.assertEqual(sizeof(book, kind, plainest(book, kind)), 1000)
            self.assertEqual(refusal(plainest, book, record(a=kind)), ("TooGreat", record(a=kind)))

    def test_parts_are_counted_and_not_made(self):
        kind = row(16, row(16, box(row(16, row(16, box(row(9, T)))))))
        self.assertEqual(refusal(plainest, (), kind), ("TooGreat", kind))
        book = (("wide", ("a",), row(16, row(16, box(hole("a"))))),)
        kind = use("wide", use("wide", use("wide", use("wide", use("wide", T)))))
        self.assertEqual(refusal(plainest, book, kind), ("TooGreat", kind))


if __name__ == "__main__":
    unittest.main()
