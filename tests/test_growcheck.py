"""Papers of growth and their first faults: I2, I3."""

import random
import unittest

from packedforms.growcheck import FRESH_BOXES, FRESH_PARTS, MOST_ROWS, growfault
from packedforms.worths import misfit, sizeof
from tests.planning import changed
from tests.test_store import numbers
from tests.things import (BOXES, HEIGHT_11, HIGH_BOOK, I8, LIST, LIST8, N8, N16, NONE, NO_THINGS, SPAN_400, T, THIRTEEN,
                          TWELVE, WRONG_BOOK, box, deep, hole, maybe, nat, record, row, use, variant, whole)

BOOK = LIST + BOXES
NUMBER, TRUTH = ("number",), ("truth",)
NUMBERS = (N8, N16, NUMBER)
TRUTHS = (T, T, TRUTH)

# All seven steps: a renamed field, a fresh one, a further arm, two further things, a maybe, a some.
OLD = record(a=N8, b=variant(x=T, y=N8), c=row(2, N8), d=maybe(T), e=T)
NEW = record(b=variant(w=NONE, y=N16, x=T), f=NONE, z=N16, c=row(4, N16), d=maybe(T), e=maybe(T))
PAPER = (
    (OLD, NEW, ("record", ((1, 3, None), (-1, -1, ()), (0, 1, None), (2, 4, None), (3, 5, None), (4, 6, None)))),
    NUMBERS,
    TRUTHS,
    (OLD[1][1][1], NEW[1][0][1], ("variant", ((2, 2), (1, 1)))),
    (row(2, N8), row(4, N16), ("row", 1, (7, 8))),
    (maybe(T), maybe(T), ("maybe", 2)),
    (T, maybe(T), ("some", 2)),
)


class GrowTest(unittest.TestCase):
    def right(self, *rows, old=BOOK, new=BOOK):
        self.assertIsNone(growfault(old, new, rows))

    def told(self, rows, number, why, old=BOOK, new=BOOK):
        self.assertEqual(growfault(old, new, rows), (number, why))

    def bent(self, place, other, number, why, paper=PAPER):
        self.told(changed(paper, place, other), number, why)

    def test_constants(self):
        self.assertEqual((MOST_ROWS, FRESH_PARTS, FRESH_BOXES), (60, 60, 4))

    def test_all_steps(self):
        self.right(*PAPER)
        self.right(*PAPER, old=(), new=())
        self.right(NUMBERS)
        self.right(TRUTHS)
        self.right((NONE, NONE, ("record", ())))

    def test_books(self):
        for book in NO_THINGS + (WRONG_BOOK,):
            if book != ():
                for paper in (PAPER, None):
                    self.told(paper, -1, "old", old=book)
                    self.told(paper, -1, "old", old=book, new=book)
                    self.told(paper, -1, "new", new=book)

    def test_paper(self):
        for paper in (None, True, 0, "", "ab", 10 ** 400, ()):
            self.told(paper, -1, "paper")
        self.right(*(TRUTHS,) * 60)
        self.told((TRUTHS,) * 61, -1, "paper")
        self.told((None,) * 61, -1, "paper")

    def test_form(self):
        for thing in NO_THINGS + (TRUTHS[:2], TRUTHS + (1,), "abc", [T, T, TRUTH]):
            self.told((thing,), 0, "form")
            self.told((TRUTHS, thing), 1, "form")

    def test_form_of_steps(self):
        for step in NO_THINGS + ("truth", ("Truth",), (("truth",),), ("truth", 0), ("number", 0), ("record",),
                                 ("record", (), ()), ("variant",), ("variant", (), ()), ("row", 0), ("row", 0, (), ()),
                                 ("row", ()), ("maybe",), ("maybe", 0, 0), ("some",), ("some", 0, 0), ("nat",),
                                 ("box", 0), (True,), (None, 0)):
            self.told(((None, None, step),), 0, "form")

    def test_form_of_what_is_in_steps(self):
        for thing in (None, True, 0, "", "ab"):
            self.told(((None, None, ("record", thing)),), 0, "form")
            self.told(((None, None, ("variant", thing)),), 0, "form")
            self.told(((None, None, ("row", 0, thing)),), 0, "form")
            self.told(((None, None, ("record", (thing,))),), 0, "form")
            self.told(((None, None, ("variant", (thing,))),), 0, "form")
        for field in ((), (0,), (0, 0), (0, 0, None, None), (-1, 0, 0), (0, -1, 0), (-2, -2, 0), (0, 1, 0),
                      (True, 0, 0), (0, False, 0), (None, 0, 0), (0, None, 0), ("0", 0, 0), (-1, -2, 0), (-2, -1, 0),
                      (0, 10 ** 400, 0)):
            self.told(((None, None, ("record", (field,))),), 0, "form")
        for arm in ((), (0,), (0, 0, 0), (-1, 0), (0, -1), (0, 1), (True, 0), (0, False), (None, 0), (-1, -1)):
            self.told(((None, None, ("variant", (arm,))),), 0, "form")
        for number in (-1, 1, True, False, None, "0", (), 10 ** 400):
            for step in (("row", number, ()), ("maybe", number), ("some", number)):
                self.told(((None, None, step),), 0, "form")

    def test_forms_that_are_right(self):
        for step in (("record", ((0, 0, None),)), ("record", ((99, 0, 5), (-1, -1, 5))), ("variant", ((99, 0),)),
                     ("row", 0, ()), ("row", 0, (1, None)), ("maybe", 0), ("some", 0), TRUTH, NUMBER, ("record", ())):
            self.told(((None, None, step),), 0, "kind")

    def test_all_forms_ahead_of_all_else(self):
        self.told(((None, None, TRUTH), (T, T, None)), 1, "form")
        self.told(((None, None, TRUTH), (T, T, TRUTH)), 0, "kind")

    def test_kind(self):
        for kind in NO_THINGS + (nat(65), hole("a"), use("list"), use("other"), use("list", T), box(T), use("one", T),
                                 SPAN_400[:2] + (maybe(SPAN_400[2]),), record(x=use("no"))):
            self.told(((kind, T, TRUTH),), 0, "kind")
            self.told(((T, kind, TRUTH),), 0, "kind")
            self.bent((0, 0), kind, 0, "kind")
        self.told(((HEIGHT_11, T, TRUTH),), 0, "kind", old=HIGH_BOOK)
        self.told(((T, HEIGHT_11, TRUTH),), 0, "kind", new=HIGH_BOOK)

    def test_each_kind_under_its_own_book(self):
        one = (maybe(LIST8), maybe(LIST8), ("maybe", 0))
        self.told((one,), 0, "kind", old=())
        self.told((one,), 0, "kind", new=())
        self.told((one,), 0, "pair")

    def test_numbers(self):
        for old, new, fits in ((N8, N8, True), (N8, nat(9), True), (N8, nat(7), False), (I8, I8, True),
                               (I8, whole(9), True), (I8, whole(7), False), (N8, whole(8), False),
                               (N8, whole(9), True), (N8, whole(7), False), (I8, N8, False), (I8, nat(64), False),
                               (nat(64), whole(64), False), (nat(63), whole(64), True), (T, N8, False),
                               (N8, T, False), (T, T, False),
                               (N8, maybe(N8), False), (N8, record(a=N8), False)):
            paper = ((old, new, NUMBER),)
            self.assertEqual(growfault((), (), paper), None if fits else (0, "step"))

    def test_words_that_do_not_fit(self):
        kinds = {"number": N8, "truth": T, "record": NONE, "variant": variant(a=T), "row": row(1, T), "maybe": maybe(T)}
        steps = {"number": NUMBER, "truth": TRUTH, "record": ("record", ()), "variant": ("variant", ((0, 1),)),
                 "row": ("row", 1, ()), "maybe": ("maybe", 1)}
        for one in kinds:
            for other in kinds:
                for word, step in steps.items():
                    told = growfault((), (), ((kinds[one], kinds[other], step), TRUTHS))
                    self.assertEqual(told, None if one == other == word else (0, "step"))
                told = growfault((), (), ((kinds[one], kinds[other], ("some", 1)), (kinds[one], T, TRUTH)))
                self.assertEqual(told is not None and told == (0, "step"), other != "maybe")

    def test_step_of_records(self):
        one, two = record(a=T), record(a=T, b=T)
        field, fresh = (0, 1, None), (-1, -1, True)
        for old, new, fields, why in ((one, one, (field,), None), (one, two, (field, fresh), None),
                                      (one, two, (fresh, field), None), (one, two, (field,), "step"),
                                      (one, one, (field, field), "step"), (one, one, (), "step"),
                                      (two, two, (field, (1, 1, None)), None),
                                      (two, two, (field, (2, 1, None)), "step"),
                                      (one, one, ((1, 1, None),), "step"), (NONE, one, (fresh,), None),
                                      (NONE, one, (field,), "step"), (one, NONE, (), "twice"),
                                      (one, one, (fresh,), "twice"), (two, one, (field,), "twice"),
                                      (one, two, (field, field), "twice"), (two, two, (field, field), "twice")):
            told = growfault((), (), ((old, new, ("record", fields)), TRUTHS))
            self.assertEqual(told, None if why is None else (0, why))

    def test_step_of_variants(self):
        one, two = variant(a=T), variant(a=T, b=T)
        for old, new, arms, why in ((one, one, ((0, 1),), None), (one, two, ((1, 1),), None),
                                    (one, two, ((2, 1),), "step"),
                                    (two, two, ((1, 1), (0, 1)), None), (two, two, ((1, 1), (1, 1)), "twice"),
                                    (two, two, ((0, 1),), "step"), (one, one, ((0, 1), (0, 1)), "step"),
                                    (one, one, (), "step"), (two, one, ((0, 1), (0, 1)), "twice"),
                                    (two, one, ((0, 1), (1, 1)), "step")):
            told = growfault((), (), ((old, new, ("variant", arms)), TRUTHS))
            self.assertEqual(told, None if why is None else (0, why))

    def test_step_of_rows(self):
        for old, new, worths, why in ((2, 2, (), None), (2, 3, (True,), None), (2, 4, (True, False), None),
                                      (2, 3, (), "step"), (2, 3, (True, True), "step"), (2, 2, (True,), "step"),
                                      (3, 2, (), "step"), (1, 16, (True,) * 15, None), (2, 3, (1,), "worth"),
                                      (2, 4, (True, None), "worth")):
            told = growfault((), (), ((row(old, T), row(new, T), ("row", 1, worths)), TRUTHS))
            self.assertEqual(told, None if why is None else (0, why))

    def test_some(self):
        self.right((T, maybe(T), ("some", 1)), TRUTHS)
        self.told(((T, maybe(maybe(T)), ("some", 1)), (T, maybe(T), ("some", 2)), TRUTHS), 0, "some")
        # A maybe may become one more.
        self.right((maybe(T), maybe(maybe(T)), ("some", 1)), (maybe(T), maybe(T), ("maybe", 2)), TRUTHS)
        self.told(((T, T, ("some", 1)), TRUTHS), 0, "step")
        self.told(((T, maybe(N8), ("some", 1)), TRUTHS), 0, "pair")
        self.told(((N8, maybe(T), ("some", 1)), TRUTHS), 0, "pair")

    def test_pair(self):
        for place, other in (((0, 2, 1, 0, 1), 1), ((0, 2, 1, 2, 1), 2), ((0, 2, 1, 5, 1), 2), ((3, 2, 1, 0, 1), 1),
                             ((3, 2, 1, 1, 1), 2), ((4, 2, 1), 2), ((5, 2, 1), 1), ((6, 2, 1), 1), ((5, 2, 1), 5)):
            self.bent(place, other, place[0], "pair")
        # Old alike but new not, and the other way round.
        self.told(((row(1, N8), row(1, N8), ("row", 1, ())), NUMBERS), 0, "pair")
        self.told(((row(1, N16), row(1, N16), ("row", 1, ())), NUMBERS), 0, "pair")
        self.right((row(1, N8), row(1, N16), ("row", 1, ())), NUMBERS)

    def test_pairs_as_seen(self):
        for old, new in ((box(T), T), (T, box(box(T))), (use("one", T), T), (T, use("six", use("one", T))),
                         (TWELVE, TWELVE)):
            self.right((maybe(old), maybe(new), ("maybe", 1)), TRUTHS)
            self.right((record(a=old), record(b=new), ("record", ((0, 1, None),))), TRUTHS)
            self.right((variant(a=old), variant(b=new), ("variant", ((0, 1),))), TRUTHS)
            self.right((row(2, old), row(2, new), ("row", 1, ())), TRUTHS)
        self.right((T, maybe(TWELVE), ("some", 1)), TRUTHS)
        for old, new in ((THIRTEEN, T), (T, THIRTEEN), (THIRTEEN, THIRTEEN)):
            self.told(((maybe(old), maybe(new), ("maybe", 1)), TRUTHS), 0, "pair")
            self.told(((record(a=old), record(b=new), ("record", ((0, 1, None),))), TRUTHS), 0, "pair")
        self.told(((T, maybe(THIRTEEN), ("some", 1)), TRUTHS), 0, "pair")

    def test_kinds_that_name_themselves(self):
        old = variant(nil=NONE, cons=record(head=N8, tail=box(LIST8)))
        cell = old[1][1][1]
        new = variant(cons=record(tail=box(use("list", N16)), head=N16), nil=NONE)
        book = (("list", ("a",), variant(cons=record(tail=box(use("list", hole("a"))), head=hole("a")), nil=NONE)),)
        self.right((old, new, ("variant", ((1, 1), (0, 2)))), (NONE, NONE, ("record", ())),
                   (cell, new[1][0][1], ("record", ((1, 0, None), (0, 3, None)))), NUMBERS, old=LIST, new=book)

    def test_worths(self):
        field = record(a=T, b=N8)
        for worth, why in ((5, None), (255, None), (256, "worth"), (None, "worth"), (True, "worth"), ((), "worth"),
                           (deep(270), "worth")):
            paper = ((record(a=T), field, ("record", ((0, 1, None), (-1, -1, worth)))), TRUTHS)
            self.assertEqual(growfault((), (), paper), None if why is None else (0, why))
        for worth in (True, False, 0, (), "None"):
            self.told(((record(a=T), record(a=T), ("record", ((0, 1, worth),))), TRUTHS), 0, "worth")

    def test_worths_of_60_parts(self):
        small = row(7, row(7, T))
        worth = ((True,) * 7,) * 7
        self.assertEqual(sizeof((), small, worth), 57)
        for kind, told, fits in ((maybe(maybe(maybe(small))), (((worth,),),), True),
                                 (maybe(maybe(maybe(maybe(small)))), ((((worth,),),),), False),
                                 (record(a=small, b=T, c=T), (worth, True, True), True),
                                 (record(a=small, b=T, c=T, d=T), (worth, True, True, True), False)):
            self.assertEqual(misfit((), kind, told, boxes=4, most=60) is None, fits)
            paper = ((NONE, record(x=kind), ("record", ((-1, -1, told),))),)
            self.assertEqual(growfault((), (), paper), None if fits else (0, "worth"))

    def test_worths_of_four_boxes(self):
        for kind, told, fits in ((LIST8, numbers(1, 2, 3, 4), True), (LIST8, numbers(1, 2, 3, 4, 5), False),
                                 (box(LIST8), numbers(1, 2, 3), True), (box(LIST8), numbers(1, 2, 3, 4), False),
                                 (box(T, 4), True, True), (box(T, 5), True, False), (THIRTEEN, True, False)):
            paper = ((NONE, record(x=kind), ("record", ((-1, -1, told),))),)
            self.assertEqual(growfault(BOOK, BOOK, paper), None if fits else (0, "worth"))

    def test_worths_of_further_things(self):
        kind = use("list", T)
        inner = variant(nil=NONE, cons=record(head=T, tail=box(kind)))
        rows = ((inner, inner, ("variant", ((0, 2), (1, 3)))), (NONE, NONE, ("record", ())),
                (inner[1][1][1], inner[1][1][1], ("record", ((0, 4, None), (1, 1, None)))), TRUTHS)
        five = ("nil", ())
        for many in range(6):
            paper = ((row(1, kind), row(2, kind), ("row", 1, (five,))),) + rows
            self.assertEqual(growfault(LIST, LIST, paper), None if many <= 4 else (0, "worth"))
            five = ("cons", (True, five))

    def test_the_order_within_a_row(self):
        """Faults added one by one from the last on, so that the first one is told each time."""
        two = record(a=T, b=T)
        paper = ((two, record(a=T, b=T, c=N8), ("record", ((0, 1, None), (1, 1, None), (-1, -1, 5)))), TRUTHS)
        self.right(*paper)
        for place, other, why in (((0, 2, 1, 1, 0), 0, "twice"), ((0, 2, 1, 2, 2), 256, "worth"),
                                  ((0, 2, 1, 1, 1), 0, "pair"), ((0, 2, 1, 1, 0), 2, "step"),
                                  ((0, 0), box(two), "kind"), ((1, 2), None, "form")):
            paper = changed(paper, place, other)
            self.told(paper, 1 if why == "form" else 0, why)
        self.told(paper, -1, "new", new=None)
        self.told(paper, -1, "old", old=None, new=None)

    def test_some_is_told_last_and_where_it_stands(self):
        some = (T, maybe(T), ("some", 2))
        self.told(((T, maybe(maybe(T)), ("some", 1)), some, TRUTHS), 0, "some")
        self.told((TRUTHS, (T, maybe(maybe(T)), ("some", 2)), (T, maybe(T), ("some", 0))), 1, "some")
        self.told(((T, maybe(maybe(N8)), ("some", 1)), some, TRUTHS), 0, "pair")

    def test_the_first_row_is_told(self):
        bad = (N16, N8, NUMBER)
        self.told((TRUTHS, bad, (None, T, TRUTH)), 1, "step")
        self.told((TRUTHS, (None, T, TRUTH), bad), 1, "kind")

    def test_truths_for_numbers(self):
        self.told(((nat(True), T, TRUTH),), 0, "kind")
        self.told(((row(1, T), row(2, T), ("row", True, (True,))), TRUTHS), 0, "form")

    def test_any_written_thing(self):
        for thing in (deep(280), (deep(279),), ((deep(270), deep(270), TRUTH),), ((T, T, deep(270)),),
                      ((T, T, ("record", deep(270))),), ((T, T, ("record", (deep(200),))),),
                      ((T, T, ("row", 0, deep(200))),), ((row(1, T), row(2, T), ("row", 1, (deep(200),))), TRUTHS)):
            for old, new in (((), ()), (BOOK, BOOK), (deep(280), ()), ((), deep(280)), (thing, thing)):
                told = growfault(old, new, thing)
                self.assertIsNotNone(told)
                self.assertEqual(growfault(old, new, thing), told)

    def test_bent_papers(self):
        dice = random.Random(121)
        others = NO_THINGS + (T, N8, N16, OLD, NEW, 2, 3, 6, TRUTH, NUMBER, ("maybe", 2), PAPER[0], PAPER[3][2])
        let_by = 0
        for each in range(1500):
            place, inner = (), PAPER
            while type(inner) is tuple and inner and dice.random() < 0.85:
                number = dice.randrange(len(inner))
                place, inner = place + (number,), inner[number]
            told = growfault((), (), changed(PAPER, place, dice.choice(others)))
            let_by += told is None
            if told is not None:
                self.assertIn(told[1], ("paper", "form", "kind", "step", "pair", "worth", "twice", "some"))
        self.assertGreater(let_by, 10)


if __name__ == "__main__":
    unittest.main()
