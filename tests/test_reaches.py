"""Reaches, heights, spans, rings and kinds that stand: A6, A7."""

import unittest

from packedforms.books import body, formfault, parts
from packedforms.kinds import alike
from packedforms.reaches import (MOST_KINDS, checked, heights, highfault, kindfault, reach, ringfault, spans)
from tests.things import (HEIGHT_10, HEIGHT_11, HIGH_BOOK, I8, LIST, LIST8, N8, NONE, NO_THINGS, SPAN_400, T,
                          WRONG_BOOK, box, crowd, deep, hole, maybe, nat, record, refusal, row, use, variant)

# Grows with each use of itself: deeper and deeper, or wider and wider.
DEEPER = (("grow", ("a",), variant(stop=T, more=box(use("grow", maybe(hole("a")))))),)
WIDER = (("grow", ("a",), variant(stop=T, more=box(use("grow", record(a=hole("a"), b=hole("a"), c=hole("a")))))),)

# Books whose use("a") is on a ring or leads to one.
RINGS = (
    (("a", (), use("a")),),
    (("a", (), use("b")), ("b", (), use("a"))),
    (("a", (), record(x=T, y=use("a"))),),
    (("a", (), variant(x=T, y=use("a"))),),
    (("a", (), maybe(use("a"))),),
    (("a", (), row(1, use("b"))), ("b", (), maybe(use("c"))), ("c", (), record(x=N8, y=use("a")))),
    (("a", (), maybe(box(use("b")))), ("b", (), record(x=use("c"))), ("c", (), use("b"))),
    (("a", (), box(use("a"))),),
    (("a", (), box(box(use("a")))),),
    (("a", (), box(use("b"))), ("b", (), use("a"))),
    (("a", (), record(x=box(use("b")))), ("b", (), box(use("c"))), ("c", (), box(use("b")))),
    (("a", (), use("w", N8)), ("w", ("h",), record(x=hole("h"), y=use("w", hole("h"))))),
    (("a", (), record(x=use("a"), y=box(use("b")))), ("b", (), box(use("b")))),
)

# Books whose use("a") names itself and stands.
LOOPS = (
    (("a", (), record(x=box(use("a")))),),
    (("a", (), maybe(box(use("a")))),),
    (("a", (), box(maybe(use("a")))),),
    (("a", (), row(2, box(use("b")))), ("b", (), variant(x=use("a"), y=T))),
    (("a", (), box(record(x=use("b")))), ("b", (), use("c")), ("c", (), box(use("a")))),
    (("a", (), variant(x=box(use("a")), y=box(box(use("a"))))),),
)


def slow_reach(book, kind, told=()):
    if any(alike(kind, other) for other in told):
        return told
    told += (kind,)
    for each in parts(book, kind):
        told = slow_reach(book, each, told)
    return told


def slow_height(book, kind):
    flat = () if kind[0] == "box" else parts(book, kind)
    return 1 + max([slow_height(book, each) for each in flat], default=0)


def slow_span(book, kind):
    flat = () if kind[0] == "box" else parts(book, kind)
    return 1 + sum(slow_span(book, each) for each in flat) * (kind[1] if kind[0] == "row" else 1)


SAMPLES = (
    [((), kind) for kind in (N8, T, NONE, record(a=N8, b=T, c=N8), maybe(row(3, variant(a=T, b=box(I8)))), SPAN_400)]
    + [(LIST, kind) for kind in (LIST8, maybe(LIST8), record(a=use("list", LIST8), b=T, c=LIST8))]
    + [(book, use("a")) for book in LOOPS] + [(HIGH_BOOK, HEIGHT_10), crowd(3)]
)


class ReachTest(unittest.TestCase):
    def test_preorder_each_once(self):
        self.assertEqual(reach((), N8), (N8,))
        kind = record(a=maybe(N8), b=T, c=row(2, N8), d=maybe(N8))
        self.assertEqual(reach((), kind), (kind, maybe(N8), N8, T, row(2, N8)))
        shape = variant(nil=NONE, cons=record(head=N8, tail=box(LIST8)))
        self.assertEqual(reach(LIST, LIST8), (LIST8, shape, NONE, shape[1][1][1], N8, box(LIST8)))

    def test_what_comes_later_first_met_deep_within(self):
        kind = record(a=record(b=maybe(T)), c=T, d=maybe(T), e=I8)
        self.assertEqual(reach((), kind), (kind, record(b=maybe(T)), maybe(T), T, I8))

    def test_as_gone_through_one_by_one(self):
        for book, kind in SAMPLES:
            self.assertEqual(reach(book, kind), slow_reach(book, kind))

    def test_most(self):
        self.assertEqual(MOST_KINDS, 60)
        kind = record(a=maybe(N8), b=T, c=row(2, N8))
        for most in (5, 6, 60):
            self.assertEqual(reach((), kind, most=most), (kind, maybe(N8), N8, T, row(2, N8)))
        self.assertEqual(refusal(reach, (), kind, most=4), ("TooMany", row(2, N8)))
        self.assertEqual(refusal(reach, (), kind, most=3), ("TooMany", T))
        self.assertEqual(refusal(reach, (), kind, most=1), ("TooMany", maybe(N8)))
        self.assertEqual(reach((), T, most=1), (T,))

    def test_sixty_and_one_more(self):
        book, kind = crowd(3)
        self.assertEqual(len(reach(book, kind)), 60)
        book, kind = crowd(4)
        self.assertEqual(refusal(reach, book, kind), ("TooMany", nat(46)))
        book, kind = crowd(7)
        self.assertEqual(refusal(reach, book, kind), ("TooMany", nat(46)))

    def test_forms_of_a_kind(self):
        book = (("three", ("a",), record(a=hole("a"), b=hole("a"), c=hole("a"))),
                ("more", ("a",), record(a=hole("a"), b=hole("a"), c=hole("a"), d=T)))
        fill = record(a=T, b=T, c=T, d=T, e=T, f=T, g=record(a=T, b=T, c=T, d=T, e=T))
        self.assertEqual(reach(book, use("three", fill)), (use("three", fill), record(a=fill, b=fill, c=fill), fill, T,
                                                           fill[1][6][1]))
        wrong = record(a=fill, b=fill, c=fill, d=T)
        self.assertEqual(refusal(reach, book, use("more", fill)), ("TooMany", wrong))
        self.assertEqual(refusal(reach, book, maybe(use("more", fill))), ("TooMany", wrong))

    def test_forms_within_one_another(self):
        book = (("four", ("a",), maybe(hole("a"), 4)), ("five", ("a",), maybe(hole("a"), 5)))
        self.assertEqual(reach(book, use("four", maybe(T, 3)))[1], maybe(T, 7))
        self.assertEqual(refusal(reach, book, use("five", maybe(T, 3))), ("TooMany", maybe(T, 8)))

    def test_declarations_that_grow(self):
        self.assertEqual(refusal(reach, DEEPER, use("grow", N8)), ("TooMany", body(DEEPER, use("grow", maybe(N8, 4)))))
        fill = N8
        for each in range(2):
            fill = record(a=fill, b=fill, c=fill)
        self.assertEqual(refusal(reach, WIDER, use("grow", N8)), ("TooMany", body(WIDER, use("grow", fill))))

    def test_first_met_of_several_that_can_not_stand(self):
        book = (("five", ("a",), maybe(hole("a"), 5)), ("six", ("a",), maybe(hole("a"), 6)))
        kind = record(a=use("six", maybe(T, 3)), b=use("five", maybe(T, 4)))
        self.assertEqual(refusal(reach, book, kind), ("TooMany", maybe(T, 9)))
        kind = record(b=maybe(use("five", maybe(T, 4))), a=use("six", maybe(N8, 3)))
        self.assertEqual(refusal(reach, book, kind), ("TooMany", maybe(T, 9)))
        self.assertEqual(refusal(reach, book, kind, most=3), ("TooMany", maybe(T, 9)))
        self.assertEqual(refusal(reach, book, kind, most=2), ("TooMany", use("five", maybe(T, 4))))

    def test_refusals_of_book_and_kind(self):
        for call in (reach, heights, spans, checked):
            self.assertEqual(refusal(call, WRONG_BOOK, None), ("BadBook", (0, 0), "name"))
            self.assertEqual(refusal(call, deep(280), T), ("BadBook", (0,), "entry"))
            self.assertEqual(refusal(call, (), maybe(nat(65))), ("BadKind", (1, 1), "bits"))
            self.assertEqual(refusal(call, LIST, hole("a")), ("BadKind", (1,), "hole"))
            self.assertEqual(refusal(call, DEEPER, use("grow", N8))[0], "TooMany")

    def test_reach_goes_on_where_others_refuse(self):
        for book in RINGS:
            self.assertEqual(reach(book, use("a")), slow_reach(book, use("a")))
        self.assertEqual(len(reach(HIGH_BOOK, HEIGHT_11)), 11)
        self.assertEqual(len(reach((), maybe(SPAN_400))), 5)


class HeightsTest(unittest.TestCase):
    def test_heights(self):
        self.assertEqual(heights((), N8), (1,))
        self.assertEqual(heights((), NONE), (1,))
        self.assertEqual(heights((), box(maybe(T))), (1, 2, 1))
        self.assertEqual(heights((), record(a=maybe(row(2, T)), b=box(N8))), (4, 3, 2, 1, 1, 1))
        self.assertEqual(heights(LIST, LIST8), (4, 3, 1, 2, 1, 1))
        self.assertEqual(heights((), variant(a=T, b=maybe(T))), (3, 1, 2))

    def test_as_gone_through_one_by_one(self):
        for book, kind in SAMPLES:
            self.assertEqual(heights(book, kind), tuple(slow_height(book, each) for each in reach(book, kind)))

    def test_ten_and_eleven(self):
        self.assertEqual(heights(HIGH_BOOK, HEIGHT_10), (10, 9, 8, 7, 6, 5, 4, 3, 2, 1))
        for call in (heights, spans, checked):
            self.assertEqual(refusal(call, HIGH_BOOK, HEIGHT_11), ("TooMany", HEIGHT_11))
            self.assertEqual(refusal(call, HIGH_BOOK, box(HEIGHT_11)), ("TooMany", HEIGHT_11))
            self.assertEqual(refusal(call, HIGH_BOOK, maybe(box(HEIGHT_11))), ("TooMany", HEIGHT_11))
            self.assertEqual(refusal(call, HIGH_BOOK, maybe(HEIGHT_11)), ("TooMany", maybe(HEIGHT_11)))

    def test_heights_without_too_great(self):
        self.assertEqual(heights((), maybe(SPAN_400)), (5, 4, 3, 2, 1))


class SpansTest(unittest.TestCase):
    def test_spans(self):
        self.assertEqual(spans((), N8), (1,))
        self.assertEqual(spans((), NONE), (1,))
        self.assertEqual(spans((), record(a=N8, b=N8, c=maybe(T))), (5, 1, 2, 1))
        self.assertEqual(spans((), row(7, maybe(T))), (15, 2, 1))
        self.assertEqual(spans((), variant(a=T, b=box(row(16, N8)))), (3, 1, 1, 17, 1))
        self.assertEqual(spans(LIST, LIST8), (6, 5, 1, 3, 1, 1))

    def test_as_gone_through_one_by_one(self):
        for book, kind in SAMPLES:
            self.assertEqual(spans(book, kind), tuple(slow_span(book, each) for each in reach(book, kind)))

    def test_400_and_401(self):
        self.assertEqual(spans((), SPAN_400), (400, 133, 11, 1))
        for call in (spans, checked):
            self.assertEqual(refusal(call, (), maybe(SPAN_400)), ("TooGreat", maybe(SPAN_400)))
            self.assertEqual(refusal(call, (), box(maybe(SPAN_400))), ("TooGreat", maybe(SPAN_400)))
            self.assertEqual(refusal(call, (), box(maybe(maybe(SPAN_400)))), ("TooGreat", maybe(SPAN_400, 2)))
        self.assertEqual(spans((), box(SPAN_400)), (1, 400, 133, 11, 1))

    def test_each_kind_is_reckoned_once(self):
        book = tuple([(name, (), row(16, use(other))) for name, other in zip("abcd", "bcde")]) + (("e", (), T),)
        self.assertEqual(refusal(spans, book, use("b")), ("TooGreat", use("b")))
        self.assertEqual(heights(book, use("a")), (10, 9, 8, 7, 6, 5, 4, 3, 2, 1))


class EndlessTest(unittest.TestCase):
    def test_rings(self):
        for book in RINGS:
            for kind in (use("a"), box(use("a")), record(x=T, y=use("a"))):
                for call in (heights, spans, checked):
                    name, ring = refusal(call, book, kind)
                    self.assertEqual(name, "Endless")
                    self.assertIsNone(ringfault(book, ring))
                    for each in ring:
                        self.assertIn(each, reach(book, kind))

    def test_loops_that_stand(self):
        for book in LOOPS:
            self.assertEqual(checked(book, use("a")), use("a"))

    def test_order_of_refusals(self):
        book, kind = crowd(4)
        book += (("loop", (), use("loop")),)
        self.assertEqual(refusal(spans, book, record(x=use("loop"), y=kind))[0], "TooMany")
        self.assertEqual(refusal(heights, book, record(x=use("loop"), y=kind))[0], "TooMany")
        book = HIGH_BOOK + (("loop", (), use("loop")),)
        self.assertEqual(refusal(spans, book, record(x=HEIGHT_11, y=SPAN_400, z=use("loop"))),
                         ("Endless", (use("loop"), use("loop"))))
        self.assertEqual(refusal(heights, book, record(x=HEIGHT_11, z=box(use("loop")))),
                         ("Endless", (use("loop"), use("loop"))))
        kind = record(x=box(maybe(SPAN_400)), y=box(HEIGHT_11))
        self.assertEqual(refusal(spans, HIGH_BOOK, kind), ("TooMany", HEIGHT_11))
        self.assertEqual(refusal(checked, HIGH_BOOK, kind), ("TooMany", HEIGHT_11))


class KindFaultTest(unittest.TestCase):
    def test_stands(self):
        for book, kind in SAMPLES:
            self.assertIsNone(kindfault(book, kind))
            self.assertEqual(checked(book, kind), kind)

    def test_formfault_goes_ahead(self):
        for thing in NO_THINGS + (nat(0), hole("a"), use("a"), maybe(T, 8)):
            self.assertEqual(kindfault(LIST, thing), formfault(LIST, thing))
            self.assertIsNotNone(kindfault(LIST, thing))
        for book in NO_THINGS + (WRONG_BOOK,):
            if book != ():
                self.assertEqual(kindfault(book, T), ((), "book"))

    def test_words(self):
        book, kind = crowd(4)
        self.assertEqual(kindfault(book, kind), ((), "many"))
        self.assertEqual(kindfault(DEEPER, use("grow", T)), ((), "many"))
        for ring in RINGS:
            self.assertEqual(kindfault(ring, use("a")), ((), "endless"))
        self.assertEqual(kindfault(HIGH_BOOK, HEIGHT_11), ((), "high"))
        self.assertEqual(kindfault((), maybe(SPAN_400)), ((), "great"))

    def test_first_word(self):
        book, kind = crowd(4)
        book += (("loop", (), use("loop")),)
        self.assertEqual(kindfault(book, record(x=use("loop"), y=kind)), ((), "many"))
        book = HIGH_BOOK + (("loop", (), use("loop")),)
        self.assertEqual(kindfault(book, record(x=HEIGHT_11, y=maybe(SPAN_400), z=use("loop"))), ((), "endless"))
        self.assertEqual(kindfault(book, record(x=maybe(SPAN_400), y=box(HEIGHT_11))), ((), "high"))


A, B, C = use("a"), use("b"), use("c")
MIXED = (("a", (), record(x=B, y=T, z=box(A))), ("b", (), A), ("c", (), box(C)))
BODY = record(x=B, y=T, z=box(A))


class RingFaultTest(unittest.TestCase):
    def test_rings(self):
        for thing in ((A, BODY, B, A), (BODY, B, A, BODY), (B, A, BODY, B), (C, box(C), C), (box(C), C, box(C))):
            self.assertIsNone(ringfault(MIXED, thing))
        self.assertIsNone(ringfault(RINGS[0], (A, A)))
        self.assertIsNone(ringfault(RINGS[8], (box(A), A, box(box(A)), box(A))))

    def test_book(self):
        for book in NO_THINGS + (WRONG_BOOK,):
            if book != ():
                self.assertEqual(ringfault(book, None), "book")
                self.assertEqual(ringfault(book, (A, A)), "book")

    def test_ring(self):
        for thing in (None, True, 2, "ab", (), (A,), deep(280)):
            self.assertEqual(ringfault(MIXED, thing), "ring")

    def test_kind(self):
        for thing in ((A, None), (None, A), (A, BODY, hole("h"), A), (A, use("d")), (nat(0), nat(0)), (A, deep(270))):
            self.assertEqual(ringfault(MIXED, thing), "kind")

    def test_part(self):
        for thing in ((A, A), (A, B, A), (A, T), (T, T), (A, BODY, A), (BODY, B, BODY), (BODY, A, BODY),
                      (A, BODY, B, BODY), (C, C)):
            self.assertEqual(ringfault(MIXED, thing), "part")

    def test_a_part_of_a_box(self):
        self.assertEqual(ringfault(MIXED, (A, BODY, box(A), A)), "part")
        self.assertEqual(ringfault(MIXED, (box(A), A, BODY, box(A))), "part")
        self.assertEqual(ringfault(MIXED, (box(C), C, box(C), T)), "part")
        self.assertEqual(ringfault(MIXED, (box(T), T)), "part")

    def test_round(self):
        for thing in ((A, BODY), (A, BODY, B), (A, BODY, T), (BODY, box(A)), (C, box(C)), (box(C), C),
                      (B, A, BODY, B, A)):
            self.assertEqual(ringfault(MIXED, thing), "round")

    def test_twice(self):
        for thing in ((A, BODY, B, A, BODY, B, A), (C, box(C), C, box(C), C)):
            self.assertEqual(ringfault(MIXED, thing), "twice")
        self.assertEqual(ringfault(RINGS[0], (A, A, A)), "twice")

    def test_first_word(self):
        self.assertEqual(ringfault(MIXED, (T, T, None)), "kind")
        self.assertEqual(ringfault(MIXED, (A, BODY, B, A, BODY, B)), "round")
        self.assertEqual(ringfault(MIXED, (B, B, A)), "part")


class HighFaultTest(unittest.TestCase):
    def test_papers_of_heights(self):
        for book, kind in SAMPLES:
            paper = tuple(zip(reach(book, kind), heights(book, kind)))
            self.assertIsNone(highfault(book, paper))
            self.assertIsNone(highfault(book, paper[::-1]))
            self.assertIsNone(highfault(book, tuple((each, 7 * number + 10 ** 40) for each, number in paper)))
            self.assertIsNone(highfault(book, paper + paper))
        self.assertIsNone(highfault((), ()))

    def test_one_less(self):
        for book, kind in SAMPLES:
            paper = tuple(zip(reach(book, kind), heights(book, kind)))
            for k, (each, number) in enumerate(paper):
                bent = paper[:k] + ((each, number - 1),) + paper[k + 1:]
                self.assertEqual(highfault(book, bent), (k, "number" if number == 1 else "part"))

    def test_a_row_left_out(self):
        paper = tuple(zip(reach(LIST, LIST8), heights(LIST, LIST8)))
        self.assertIsNone(highfault(LIST, paper[1:]))
        self.assertEqual(highfault(LIST, paper[:1] + paper[2:]), (0, "part"))
        self.assertEqual(highfault(LIST, paper[:2] + paper[3:]), (1, "part"))
        self.assertEqual(highfault(LIST, paper[:5]), (3, "part"))
        self.assertEqual(highfault(LIST, paper[1:4]), (2, "part"))

    def test_a_row_twice(self):
        self.assertIsNone(highfault((), ((maybe(T), 2), (T, 1), (T, 9))))
        self.assertIsNone(highfault((), ((maybe(T), 2), (T, 9), (T, 1))))
        self.assertEqual(highfault((), ((maybe(T), 3), (maybe(T), 2), (T, 2))), (1, "part"))
        self.assertEqual(highfault((), ((maybe(T), 2), (T, 2))), (0, "part"))

    def test_boxes_have_no_flat_parts(self):
        self.assertIsNone(highfault((), ((box(T), 1),)))
        self.assertIsNone(highfault((), ((maybe(box(maybe(T))), 2), (box(maybe(T)), 1))))
        self.assertEqual(highfault(RINGS[7], ((use("a"), 5),)), (0, "part"))

    def test_book_and_paper(self):
        for book in NO_THINGS + (WRONG_BOOK,):
            if book != ():
                self.assertEqual(highfault(book, None), (0, "book"))
                self.assertEqual(highfault(book, ((T, 1),)), (0, "book"))
        for thing in (None, True, 0, "ab"):
            self.assertEqual(highfault((), thing), (0, "paper"))

    def test_rows_by_themselves(self):
        for thing in (None, 0, "ab", (), (T,), (T, 1, 1)):
            self.assertEqual(highfault((), ((T, 1), thing)), (1, "row"))
        for thing in (None, nat(0), hole("a"), use("a"), maybe(T, 8)):
            self.assertEqual(highfault((), ((T, 1), (thing, 0))), (1, "kind"))
        for number in (0, -1, True, None, "1", (1,), -10 ** 40):
            self.assertEqual(highfault((), ((N8, 1), (T, number))), (1, "number"))

    def test_parts_come_last(self):
        self.assertEqual(highfault((), ((maybe(T), 1), None)), (1, "row"))
        self.assertEqual(highfault((), ((maybe(T), 1), (T, 0))), (1, "number"))
        self.assertEqual(highfault((), ((T, 1), (maybe(N8), 1), (row(2, I8), 5))), (1, "part"))

    def test_no_paper_for_a_flat_ring(self):
        book = RINGS[2]
        kind = body(book, A)
        for one in range(1, 4):
            for other in range(1, 4):
                self.assertIsNotNone(highfault(book, ((A, one), (kind, other), (T, 1))))


if __name__ == "__main__":
    unittest.main()
