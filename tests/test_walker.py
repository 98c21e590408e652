"""The walk over worths: G5, G6."""

import random
import unittest

from packedforms.blocks import ROOM
from packedforms.images import imaged, weight
from packedforms.maker import planned
from packedforms.paths import part, replaced
from packedforms.plancheck import planfault
from packedforms.programs import programfault
from packedforms.walker import TURNS, done, gone, reckoned, walked
from packedforms.worths import misfit, sizeof
from tests.scripts import random_frame, random_program
from tests.test_images import FAR_BOOK, FAR_LINK
from tests.test_paths import SOME, arm, at, field
from tests.test_programs import BOOK, FRAME, G, I, L, M, N, NO, ONE, R, SAY, T_AT, V, YES, get
from tests.test_store import NIL, numbers
from tests.things import (BOXES, LIST, LIST8, N8, NO_THINGS, T, TWELVE, WRONG_BOOK, box, hole, maybe, nat, record,
                          refusal, row, use, variant, whole)
from tests.worlds import BOOK as WORLD, random_worth

WORTH = (1, -300, True, (10, 20, 30), ((True, False), (False, True)), ("a", 7), (9,), numbers(5, 6))
HEAD = (arm("cons"), field("head"))
TAIL = (arm("cons"), field("tail"))


def number(n):
    return ("number", n)


def truth(t):
    return ("truth", t)


def ending(word):
    """An expression, a number, that ends by a word."""
    return {"nought": ("div", ONE, number(0)), "row": get(R + (at(number(3)),)), "arm": get(M + (SOME,))}[word]


def ending_truth(word):
    return ("like", ending(word), ONE)


# A thing of 489 parts.
CROWDED = row(4, box(row(11, row(10, N8))))
CROWD = (((0,) * 10,) * 11,) * 4


def crowded(names):
    """A frame that has 997 parts, where both its maybes are there, and a truth for each name."""
    return ("record", (("a", maybe(box(CROWDED))), ("b", maybe(box(CROWDED))), ("s", row(15, T)))
            + tuple((name, T) for name in names))


class ReckonedTest(unittest.TestCase):
    def told(self, expression, due, worth=WORTH, frame=FRAME, book=BOOK):
        self.assertIsNone(programfault(book, (frame, (("say", expression),))))
        told = reckoned(book, frame, worth, expression)
        self.assertEqual(told, due)
        self.assertIs(type(told[1]), type(due[1]))

    def test_numbers_and_truths(self):
        for n in (0, 1, -1, 2 ** 64, -2 ** 64):
            self.told(number(n), ("number", n))
        self.told(YES, ("truth", True))
        self.told(NO, ("truth", False))

    def test_get(self):
        self.told(get(N), ("number", 1))
        self.told(get(I), ("number", -300))
        self.told(get(T_AT), ("truth", True))
        self.told(get(R + (at(number(2)),)), ("number", 30))
        self.told(get(R + (at(get(N)),)), ("number", 20))
        self.told(get(G + (at(ONE), at(number(0)))), ("truth", False))
        self.told(get(V + (arm("a"),)), ("number", 7))
        self.told(get(M + (SOME,)), ("number", 9))
        self.told(get(L + HEAD), ("number", 5))
        self.told(get(L + TAIL + HEAD), ("number", 6))

    def test_get_through_uses_and_boxes(self):
        frame = record(a=TWELVE, b=use("one", N8), c=box(box(whole(8))), d=row(2, box(maybe(use("one", T)))))
        worth = (True, 200, -5, ((), (False,)))
        self.told(get((field("a"),)), ("truth", True), worth, frame, BOXES)
        self.told(get((field("b"),)), ("number", 200), worth, frame, BOXES)
        self.told(get((field("c"),)), ("number", -5), worth, frame, BOXES)
        self.told(get((field("d"), at(ONE), SOME)), ("truth", False), worth, frame, BOXES)
        self.told(get((field("d"), at(number(0)), SOME)), ("end", "arm"), worth, frame, BOXES)

    def test_sums(self):
        for word, due in (("add", 4), ("sub", -18), ("mul", -77), ("div", -1), ("rem", 4)):
            self.told((word, number(-7), number(11)), ("number", due))
        big = 2 ** 64
        self.told(("mul", ("mul", number(big), number(big)), number(-big)), ("number", -big ** 3))
        self.told(("sub", number(-big), number(big)), ("number", -2 * big))
        self.told(("div", ("mul", number(big), number(big)), number(big)), ("number", big))
        self.told(("add", get(N), get(I)), ("number", -299))

    def test_division_rounds_down(self):
        for one, other, quotient, rest in ((7, 2, 3, 1), (-7, 2, -4, 1), (7, -2, -4, -1), (-7, -2, 3, -1), (6, 3, 2, 0),
                                           (-6, 3, -2, 0), (6, -3, -2, 0), (0, -5, 0, 0), (2, 5, 0, 2), (-2, 5, -1, 3),
                                           (2, -5, -1, -3)):
            self.told(("div", number(one), number(other)), ("number", quotient))
            self.told(("rem", number(one), number(other)), ("number", rest))

    def test_nought(self):
        for one in (0, 1, -7, 2 ** 64):
            for word in ("div", "rem"):
                self.told((word, number(one), number(0)), ("end", "nought"))
                self.told((word, number(one), ("sub", get(N), ONE)), ("end", "nought"))

    def test_less(self):
        for one, other in ((1, 2), (2, 1), (1, 1), (-2, -1), (-1, 0), (2 ** 64, -2 ** 64)):
            self.told(("less", number(one), number(other)), ("truth", one < other))

    def test_like(self):
        for one, other in ((1, 2), (1, 1), (0, 0), (-1, 1), (2 ** 64, 2 ** 64)):
            self.told(("like", number(one), number(other)), ("truth", one == other))
        for one in (True, False):
            for other in (True, False):
                self.told(("like", truth(one), truth(other)), ("truth", one == other))
        self.told(("like", get(T_AT), ("less", ONE, ONE)), ("truth", False))

    def test_not_and_or(self):
        for one in (True, False):
            self.told(("not", truth(one)), ("truth", not one))
            for other in (True, False):
                self.told(("and", truth(one), truth(other)), ("truth", one and other))
                self.told(("or", truth(one), truth(other)), ("truth", one or other))

    def test_the_second_is_left_unasked(self):
        for word in ("nought", "row", "arm"):
            worth = WORTH[:6] + ((),) + WORTH[7:]
            wrong = ending_truth(word)
            self.told(("and", NO, wrong), ("truth", False), worth)
            self.told(("or", YES, wrong), ("truth", True), worth)
            self.told(("and", YES, wrong), ("end", word), worth)
            self.told(("or", NO, wrong), ("end", word), worth)
            self.told(("and", wrong, NO), ("end", word), worth)
            self.told(("or", wrong, YES), ("end", word), worth)

    def test_is(self):
        for name, thing in (("a", 1), ("b", True), ("c", ())):
            worth = WORTH[:5] + ((name, thing),) + WORTH[6:]
            for other in "abc":
                self.told(("is", V, other), ("truth", name == other), worth)
        for thing in ((), (0,)):
            worth = WORTH[:6] + (thing,) + WORTH[7:]
            self.told(("is", M, "none"), ("truth", thing == ()), worth)
            self.told(("is", M, "some"), ("truth", thing != ()), worth)
        self.told(("is", L, "cons"), ("truth", True))
        self.told(("is", L + TAIL + TAIL, "nil"), ("truth", True))
        self.told(("is", L + TAIL + TAIL + TAIL, "nil"), ("end", "arm"))

    def test_a_maybe_of_a_variant_with_such_names(self):
        frame = record(v=variant(some=N8, none=T))
        self.told(("is", (field("v"),), "none"), ("truth", False), (("some", 3),), frame)
        self.told(("is", (field("v"),), "some"), ("truth", True), (("some", 3),), frame)
        self.told(("is", (field("v"),), "none"), ("truth", True), (("none", False),), frame)

    def test_the_first_end_is_told(self):
        worth = WORTH[:6] + ((),) + WORTH[7:]
        for one in ("nought", "row", "arm"):
            for other in ("nought", "row", "arm"):
                for word in ("add", "sub", "mul", "div", "rem", "less", "like"):
                    self.told((word, ending(one), ending(other)), ("end", one), worth)
                self.told(("div", ending(one), number(0)), ("end", one), worth)
                self.told(("not", ending_truth(one)), ("end", one), worth)
        self.told(("div", ONE, ending("row")), ("end", "row"), worth)
        self.told(("rem", number(0), number(0)), ("end", "nought"), worth)


class GoneTest(unittest.TestCase):
    def told(self, place, due, worth=WORTH, frame=FRAME, book=BOOK):
        self.assertIsNone(programfault(book, (frame, (("show", place),))))
        self.assertEqual(gone(book, frame, worth, place), due)

    def test_paths(self):
        self.told((), ("path", ()))
        self.told(N, ("path", N))
        self.told(R + (at(get(N)),), ("path", R + (at(1),)))
        self.told(R + (at(("sub", number(2), number(2))),), ("path", R + (at(0),)))
        self.told(G + (at(ONE), at(get(N))), ("path", G + (at(1), at(1))))
        self.told(L + TAIL + HEAD, ("path", L + TAIL + HEAD))
        self.told(M + (SOME,), ("path", M + (SOME,)))
        self.told(V + (arm("a"),), ("path", V + (arm("a"),)))

    def test_row(self):
        for index, fits in ((-1, False), (0, True), (2, True), (3, False), (16, False), (-2 ** 64, False)):
            due = ("path", R + (at(index),)) if fits else ("end", "row")
            self.told(R + (at(number(index)),), due)
        frame = record(r=row(1, T), s=row(16, T))
        worth = ((True,), (True,) * 16)
        for name, index, fits in (("r", 0, True), ("r", 1, False), ("s", 15, True), ("s", 16, False)):
            place = (field(name), at(number(index)))
            self.told(place, ("path", (field(name), at(index))) if fits else ("end", "row"), worth, frame)

    def test_arm(self):
        self.told(V + (arm("b"),), ("end", "arm"))
        self.told(V + (arm("c"),), ("end", "arm"))
        self.told(M + (SOME,), ("end", "arm"), WORTH[:6] + ((),) + WORTH[7:])
        self.told(L + TAIL + TAIL + HEAD, ("end", "arm"))

    def test_ends_within_a_step(self):
        self.told(R + (at(ending("nought")),), ("end", "nought"))
        self.told(R + (at(get(R + (at(number(0)),))),), ("end", "row"))
        self.told(R + (at(get(V + (arm("a"),))),), ("end", "row"))
        self.told(R + (at(ending("arm")),), ("end", "arm"), WORTH[:6] + ((),) + WORTH[7:])

    def test_the_first_of_several_ends(self):
        self.told(G + (at(number(9)), at(ending("nought"))), ("end", "row"))
        self.told(G + (at(ending("nought")), at(number(9))), ("end", "nought"))
        frame = record(v=variant(a=row(2, T), b=T), m=maybe(row(2, row(2, T))))
        worth = (("b", True), (((True, True),) * 2,))
        self.told((field("v"), arm("a"), at(ending_zero())), ("end", "arm"), worth, frame)
        self.told((field("m"), SOME, at(number(2)), at(ending_zero())), ("end", "row"), worth, frame)
        self.told((field("m"), SOME, at(ONE), at(ending_zero())), ("end", "nought"), worth, frame)
        self.told((field("m"), SOME, at(ONE), at(number(-1))), ("end", "row"), worth, frame)


def ending_zero():
    return ("rem", ONE, number(0))


class DoneTest(unittest.TestCase):
    def told(self, statement, due, worth=WORTH, frame=FRAME, book=BOOK, **named):
        self.assertIsNone(programfault(book, (frame, (statement,))))
        told = done(book, frame, worth, statement, **named)
        self.assertEqual(told, due)
        self.assertEqual(str(told), str(due))

    def becomes(self, statement, path, other, worth=WORTH, frame=FRAME, book=BOOK, **named):
        self.told(statement, ("worth", replaced(book, frame, worth, path, other)), worth, frame, book, **named)

    def test_set(self):
        self.becomes(("set", N, number(200)), N, 200)
        self.becomes(("set", I, ("sub", get(I), ONE)), I, -301)
        self.becomes(("set", T_AT, ("not", get(T_AT))), T_AT, False)
        self.becomes(("set", R + (at(get(N)),), get(I)), R + (at(1),), 44, WORTH[:1] + (44,) + WORTH[2:])
        self.becomes(("set", G + (at(ONE), at(ONE)), NO), G + (at(1), at(1)), False)
        self.becomes(("set", V + (arm("a"),), number(0)), V + (arm("a"),), 0)
        self.becomes(("set", M + (SOME,), get(N)), M + (SOME,), 1)
        self.becomes(("set", L + TAIL + HEAD, get(L + HEAD)), L + TAIL + HEAD, 5)

    def test_range(self):
        for kind, low, high in ((nat(1), 0, 1), (nat(8), 0, 255), (nat(64), 0, 2 ** 64 - 1), (whole(1), -1, 0),
                                (whole(8), -128, 127), (whole(64), -2 ** 63, 2 ** 63 - 1)):
            frame = record(x=kind)
            for n, fits in ((low, True), (high, True), (low - 1, False), (high + 1, False), (2 ** 64, False),
                            (-2 ** 64, False)):
                due = ("worth", (n,)) if fits else ("end", "range")
                self.told(("set", (field("x"),), number(n)), due, (0,), frame, ())
        self.told(("set", N, ("mul", number(2 ** 64), number(2 ** 64))), ("end", "range"))

    def test_the_reckoning_goes_ahead_of_the_going(self):
        nowhere = R + (at(number(3)),)
        self.told(("set", nowhere, ending("nought")), ("end", "nought"))
        self.told(("set", nowhere, number(999)), ("end", "row"))
        self.told(("set", V + (arm("a"),), ending("row")), ("end", "row"), WORTH[:5] + (("c", ()),) + WORTH[6:])
        self.told(("set", V + (arm("a"),), number(999)), ("end", "arm"), WORTH[:5] + (("c", ()),) + WORTH[6:])

    def test_put(self):
        self.becomes(("put", N, 77), N, 77)
        self.becomes(("put", V, ("b", False)), V, ("b", False))
        self.becomes(("put", M, ()), M, ())
        self.becomes(("put", L, numbers(1, 2, 3)), L, numbers(1, 2, 3))
        self.becomes(("put", L + TAIL, NIL), L + TAIL, NIL)
        self.becomes(("put", R + (at(get(N)),), 0), R + (at(1),), 0)
        self.becomes(("put", (), WORTH[:6] + ((), NIL)), (), WORTH[:6] + ((), NIL))
        self.told(("put", R + (at(number(3)),), 0), ("end", "row"))
        self.told(("put", V + (arm("b"),), True), ("end", "arm"))

    def test_copy(self):
        self.becomes(("copy", N, R + (at(ONE),)), N, 20)
        self.becomes(("copy", R + (at(get(N)),), N), R + (at(1),), 1)
        self.becomes(("copy", L, L + TAIL), L, numbers(6))
        self.becomes(("copy", L + TAIL, L), L + TAIL, numbers(5, 6))
        self.becomes(("copy", L, L), L, numbers(5, 6))
        self.becomes(("copy", (), ()), (), WORTH)
        self.becomes(("copy", V + (arm("a"),), M + (SOME,)), V + (arm("a"),), 9)

    def test_copy_goes_to_from_ahead_of_the_place(self):
        self.told(("copy", R + (at(number(3)),), V + (arm("a"),)), ("end", "arm"), WORTH[:5] + (("c", ()),) + WORTH[6:])
        self.told(("copy", V + (arm("a"),), R + (at(number(3)),)), ("end", "row"), WORTH[:5] + (("c", ()),) + WORTH[6:])
        self.told(("copy", R + (at(ending("nought")),), R + (at(number(3)),)), ("end", "row"))

    def test_swap(self):
        self.told(("swap", N, R + (at(ONE),)), ("worth", (20,) + WORTH[1:3] + ((10, 1, 30),) + WORTH[4:]))
        self.told(("swap", R + (at(number(0)),), R + (at(number(2)),)),
                  ("worth", WORTH[:3] + ((30, 20, 10),) + WORTH[4:]))
        self.told(("swap", M + (SOME,), V + (arm("a"),)), ("worth", WORTH[:5] + (("a", 9), (7,)) + WORTH[7:]))
        self.told(("swap", G + (at(ONE), at(ONE)), G + (at(number(0)), at(ONE))),
                  ("worth", WORTH[:4] + (((True, True), (False, False)),) + WORTH[5:]))
        self.told(("swap", L + HEAD, L + TAIL + HEAD), ("worth", WORTH[:7] + (numbers(6, 5),)))

    def test_swap_goes_to_its_place_first(self):
        worth = WORTH[:5] + (("c", ()),) + WORTH[6:]
        self.told(("swap", R + (at(number(3)),), V + (arm("a"),)), ("end", "row"), worth)
        self.told(("swap", V + (arm("a"),), R + (at(number(3)),)), ("end", "arm"), worth)

    def test_swap_of_alike_paths(self):
        for place in (N, R + (at(ONE),), L, (), V + (arm("a"),)):
            self.told(("swap", place, place), ("worth", WORTH))
        self.told(("swap", R + (at(ONE),), R + (at(get(N)),)), ("worth", WORTH))

    def test_over(self):
        for one, other in ((L, L + TAIL), (L + TAIL, L), (L + TAIL, L + TAIL + TAIL), (L, L + TAIL + TAIL)):
            self.told(("swap", one, other), ("end", "over"))
        frame = record(t=use("tree"), u=use("tree"))
        worth = (("fork", (("leaf", 1), ("leaf", 2))), ("leaf", 3))
        t, left, right = (field("t"),), (arm("fork"), field("l")), (arm("fork"), field("r"))
        self.told(("swap", t, t + right), ("end", "over"), worth, frame, BOXES)
        self.told(("swap", t + left, t + right), ("worth", (("fork", (("leaf", 2), ("leaf", 1))), ("leaf", 3))), worth,
                  frame, BOXES)
        self.told(("swap", t + left, (field("u"),)), ("worth", (("fork", (("leaf", 3), ("leaf", 2))), ("leaf", 1))),
                  worth, frame, BOXES)

    def test_deep_by_boxes(self):
        frame = record(a=LIST8, b=LIST8)
        a, b = (field("a"),), (field("b"),)
        for heads, behind in ((9, 3), (10, 3), (10, 2), (11, 2), (11, 1), (12, 1), (12, 0)):
            worth = (numbers(*range(heads)), numbers(*range(100, 100 + behind)))
            due = (worth[0], numbers(*range(100, 100 + behind), *range(heads)))
            fits = behind + heads <= 12
            self.told(("copy", b + TAIL * behind, a), ("worth", due) if fits else ("end", "deep"), worth, frame, LIST)
        worth = (numbers(*range(12)), numbers(1))
        self.told(("copy", b, a), ("worth", (worth[0], worth[0])), worth, frame, LIST)
        self.told(("copy", b + TAIL, a), ("end", "deep"), worth, frame, LIST)
        self.told(("copy", a + TAIL, a), ("end", "deep"), worth, frame, LIST)
        self.told(("swap", b + TAIL, a), ("end", "deep"), worth, frame, LIST)
        self.told(("swap", b + TAIL, a + TAIL), ("worth", (numbers(0), numbers(1, *range(1, 12)))), worth, frame, LIST)
        worth = (numbers(*range(12)), NIL)
        self.told(("put", a + TAIL * 3, numbers(1, 2, 3, 4)), ("worth", (numbers(0, 1, 2, 1, 2, 3, 4), NIL)), worth,
                  frame, LIST)

    def test_deep_by_a_put(self):
        # Behind nine boxes only lists of three things fit.
        book = LIST + (("four", ("a",), box(hole("a"), 4)), ("one", ("a",), box(hole("a"))))
        frame = record(c=use("four", use("four", use("one", LIST8))))
        c = (field("c"),)
        self.told(("put", c, numbers(1, 2, 3)), ("worth", (numbers(1, 2, 3),)), (NIL,), frame, book)
        self.told(("put", c, numbers(1, 2, 3, 4)), ("end", "deep"), (NIL,), frame, book)
        self.told(("put", c + TAIL, numbers(1, 2)), ("worth", (numbers(0, 1, 2),)), (numbers(0),), frame, book)
        self.told(("put", c + TAIL, numbers(1, 2, 3)), ("end", "deep"), (numbers(0),), frame, book)

    def test_deep_by_parts(self):
        """A whole of 1000 parts, and of one more."""
        for names, fits in (("tuv", True), ("tuvw", False)):
            frame = crowded(names)
            worth = ((CROWD,), (), (True,) * 15) + (True,) * len(names)
            due = ("worth", worth[:1] * 2 + worth[2:]) if fits else ("end", "deep")
            self.told(("copy", (field("b"),), (field("a"),)), due, worth, frame, ())
            self.told(("swap", (field("b"),), (field("a"),)), ("worth", (worth[1], worth[0]) + worth[2:]), worth, frame,
                      ())
        self.assertEqual(sizeof((), crowded("tuv"), ((CROWD,), (CROWD,), (True,) * 15, True, True, True)), 1000)

    def test_deep_by_the_parts_of_a_put(self):
        small = row(13, row(14, N8))
        worth = ((0,) * 14,) * 13
        self.assertEqual(sizeof((), small, worth), 196)
        for names, fits in (("defg", True), ("defgh", False)):
            frame = ("record", (("a", row(4, box(small))), ("b", maybe(box(small))), ("c", row(12, T)))
                     + tuple((name, T) for name in names))
            left = ((worth,) * 4, (), (True,) * 12) + (True,) * len(names)
            due = ("worth", left[:1] + ((worth,),) + left[2:]) if fits else ("end", "deep")
            self.told(("put", (field("b"),), (worth,)), due, left, frame, ())

    def test_full(self):
        frame = record(a=LIST8, b=LIST8)
        plan = planned(LIST, frame)
        worth = (numbers(1, 2), NIL)
        b = (field("b"),)
        for heads in (1, 2, 3, 4):
            statement = ("put", b, numbers(*range(heads)))
            after = (worth[0], numbers(*range(heads)))
            need = weight(plan, imaged(LIST, plan, after))
            for room in (need - 8, need - 1, need, need + 1, ROOM):
                if room >= weight(plan, imaged(LIST, plan, worth)):
                    due = ("worth", after) if room >= need else ("end", "full")
                    self.told(statement, due, worth, frame, LIST, plan=plan, room=room)
            self.told(statement, ("worth", after), worth, frame, LIST, room=0)
            self.told(statement, ("worth", after), worth, frame, LIST, plan=plan)
        need = weight(plan, imaged(LIST, plan, worth))
        self.told(("copy", b, (field("a"),)), ("end", "full"), worth, frame, LIST, plan=plan, room=need)
        self.told(("copy", b, (field("a"),)), ("worth", (worth[0],) * 2), worth, frame, LIST, plan=plan, room=need + 16)
        self.told(("swap", b, (field("a"),)), ("worth", worth[::-1]), worth, frame, LIST, plan=plan, room=need)
        self.told(("swap", b, b), ("worth", worth), worth, frame, LIST, plan=plan, room=need)
        self.told(("set", (field("a"),) + HEAD, number(9)), ("worth", (numbers(9, 2), NIL)), worth, frame, LIST,
                  plan=plan, room=need)
        self.told(("put", (field("a"),), NIL), ("worth", (NIL, NIL)), worth, frame, LIST, plan=plan, room=need)

    def test_the_room_left_out_is_512(self):
        self.assertEqual(ROOM, 512)
        frame = record(a=maybe(box(row(16, row(4, nat(64))))), b=maybe(T))
        plan = planned((), frame)
        thing = ((1, 2, 3, 4),) * 16
        self.told(("put", (field("a"),), (thing,)), ("end", "full"), ((), ()), frame, (), plan=plan)
        self.told(("put", (field("a"),), (thing,)), ("worth", ((thing,), ())), ((), ()), frame, (), plan=plan, room=520)
        self.told(("put", (field("a"),), (thing,)), ("worth", ((thing,), ())), ((), ()), frame, ())

    def test_deep_ahead_of_full(self):
        frame = record(a=LIST8, b=LIST8)
        plan = planned(LIST, frame)
        worth = (numbers(*range(12)), numbers(1))
        need = weight(plan, imaged(LIST, plan, worth))
        self.told(("copy", (field("b"),) + TAIL, (field("a"),)), ("end", "deep"), worth, frame, LIST, plan=plan,
                  room=need)
        self.told(("copy", (field("b"),), (field("a"),)), ("end", "full"), worth, frame, LIST, plan=plan, room=need)


class WalkedTest(unittest.TestCase):
    def told(self, rows, answers, end="done", place=(), used=None, left=WORTH, worth=WORTH, **named):
        program = (FRAME, rows)
        self.assertIsNone(programfault(BOOK, program))
        told = walked(BOOK, program, worth, **named)
        self.assertIs(type(told), tuple)
        self.assertEqual(told, (answers, end, place, len(rows) if used is None else used, left))
        self.assertEqual(str(told[0]), str(answers))

    def test_constant(self):
        self.assertEqual(TURNS, 500)

    def test_nothing(self):
        self.told((), ())
        self.told((), (), turns=0)

    def test_say_and_show(self):
        self.told((("say", ONE), ("say", YES), ("say", get(I)), ("say", ("is", V, "b"))), (1, True, -300, False))
        self.told((("show", N), ("show", T_AT), ("show", R), ("show", V), ("show", L + TAIL), ("show", ())),
                  (1, True, (10, 20, 30), ("a", 7), numbers(6), WORTH))

    def test_each_plain_statement(self):
        self.told((("set", N, number(5)), ("put", M, ()), ("copy", R + (at(ONE),), N), ("swap", L, L), ("show", R)),
                  ((10, 5, 30),), left=(5,) + WORTH[1:3] + ((10, 5, 30),) + WORTH[4:6] + ((), WORTH[7]))

    def test_if(self):
        for asked in (True, False):
            rows = (("if", truth(asked), (("say", number(1)), ("say", number(2))), (("say", number(3)),)), SAY)
            self.told(rows, (1, 2, 1) if asked else (3, 1), used=4 if asked else 3)
        self.told((("if", YES, (), (SAY,)), ("if", NO, (SAY,), ())), ())

    def test_while(self):
        n = get(N)
        counting = ("while", ("less", n, number(4)), (("say", n), ("set", N, ("add", n, ONE))))
        self.told((counting, SAY), (1, 2, 3, 1), used=1 + 3 * 3 + 1, left=(4,) + WORTH[1:])
        self.told((("while", NO, (SAY,)), SAY), (1,), used=2)
        self.told((("while", YES, ()),), (), "dry", (1, 0), 500)
        self.told((("while", YES, ()),), (), "dry", (1, 0), 7, turns=7)
        self.told((("while", YES, (SAY,)),), (1,) * 250, "dry", (1, 0), 500)
        self.told((("while", YES, (SAY,)),), (1,) * 4, "dry", (1, 0, 2, 0), 9, turns=9)

    def test_pick(self):
        two = (("say", number(2)), ("say", number(3)))
        rows = (("pick", V, (("a", (("say", number(1)),)), ("b", two), ("c", ()))),)
        for thing, answers in ((("a", 9), (1,)), (("b", True), (2, 3)), (("c", ()), ())):
            worth = WORTH[:5] + (thing,) + WORTH[6:]
            self.told(rows, answers, used=1 + len(answers), worth=worth, left=worth)
        rows = (("pick", M, (("none", (("say", number(1)),)), ("some", (("show", M + (SOME,)),)))),)
        for thing, answers in (((), (1,)), ((9,), (9,))):
            worth = WORTH[:6] + (thing,) + WORTH[7:]
            self.told(rows, answers, used=2, worth=worth, left=worth)
        self.told((("pick", L + TAIL, (("nil", ()), ("cons", (SAY,)))),), (1,), used=2)

    def test_the_arm_is_picked_once(self):
        rows = (("pick", V, (("a", (("put", V, ("c", ())), SAY)), ("b", ()), ("c", (("say", NO),)))),)
        self.told(rows, (1,), used=3, left=WORTH[:5] + (("c", ()),) + WORTH[6:])

    def test_turns(self):
        rows = (SAY, ("if", YES, (SAY, SAY), ()), SAY)
        for turns, many, place in ((0, 0, (1, 0)), (1, 1, (1, 1)), (2, 1, (1, 1, 2, 0)), (3, 2, (1, 1, 2, 1)),
                                   (4, 3, (1, 2))):
            self.told(rows, (1,) * many, "dry", place, turns, turns=turns)
        for turns in (5, 6, 500):
            self.told(rows, (1,) * 4, used=5, turns=turns)

    def test_dry_ahead_of_a_further_asking(self):
        n = get(N)
        rows = (("while", ("less", n, number(3)), (("set", N, ("add", n, ONE)),)),)
        for turns, left, place in ((1, 1, (1, 0, 2, 0)), (2, 2, (1, 0)), (3, 2, (1, 0, 2, 0)), (4, 3, (1, 0))):
            self.told(rows, (), "dry", place, turns, (left,) + WORTH[1:], turns=turns)
        self.told(rows, (), used=5, left=(3,) + WORTH[1:], turns=5)

    def test_dry_ahead_of_what_would_end(self):
        self.told((("say", ending("nought")),), (), "dry", (1, 0), 0, turns=0)
        self.told((("say", ending("nought")),), (), "nought", (1, 0), 1, turns=1)

    def test_ends_and_their_places(self):
        bad = ("set", N, number(256))
        set_five = ("set", N, number(5))
        left = (5,) + WORTH[1:]
        for inner in ((bad,), (SAY, bad)):
            place = len(inner) - 1
            said = (1,) * place
            for rows, where, more in ((inner, (1, place), 0),
                                      ((("if", YES, inner, ()),), (1, 0, 2, place), 1),
                                      ((("if", NO, (), inner),), (1, 0, 3, place), 1),
                                      ((("while", YES, inner),), (1, 0, 2, place), 1),
                                      ((("pick", V, (("a", inner), ("b", ()), ("c", ()))),), (1, 0, 2, 0, 1, place), 1),
                                      ((("pick", M, (("none", ()), ("some", inner))),), (1, 0, 2, 1, 1, place), 1),
                                      ((("while", YES, (("if", YES, inner, ()),)),), (1, 0, 2, 0, 2, place), 2)):
                self.told(rows + (SAY,), said, "range", where, more + len(inner))
                told = (set_five,) + rows
                self.told(told, said, "range", where[:1] + (1,) + where[2:] if rows is not inner else (1, place + 1),
                          1 + more + len(inner), left)

    def test_each_end(self):
        worth = WORTH[:6] + ((),) + WORTH[7:]
        for statement, end in ((("say", ending("nought")), "nought"), (("say", ending("row")), "row"),
                               (("say", ending("arm")), "arm"), (("show", R + (at(number(3)),)), "row"),
                               (("show", V + (arm("c"),)), "arm"), (("if", ending_truth("row"), (), ()), "row"),
                               (("while", ending_truth("nought"), ()), "nought"),
                               (("pick", L + TAIL * 3, (("nil", ()), ("cons", ()))), "arm"),
                               (("set", N, number(-1)), "range"), (("swap", L, L + TAIL), "over"),
                               (("copy", N, R + (at(number(-1)),)), "row"), (("put", M + (SOME,), 1), "arm")):
            self.told((SAY, statement, SAY), (1,), end, (1, 1), 2, worth, worth)

    def test_an_end_in_a_further_asking(self):
        n = get(N)
        rows = (("while", ("less", ("div", number(12), n), number(99)), (("set", N, ("sub", n, ONE)),)),)
        self.told(rows, (), "nought", (1, 0), 3, (0,) + WORTH[1:])

    def test_what_was_done_stays(self):
        rows = (("set", N, number(2)), ("put", L, NIL), ("swap", R + (at(ONE),), R + (at(get(N)),)), ("set", I, get(I)),
                ("set", N, number(999)))
        self.told(rows, (), "range", (1, 4), 5, (2,) + WORTH[1:3] + ((10, 30, 20),) + WORTH[4:7] + (NIL,))

    def test_full_and_deep(self):
        plan = planned(BOOK, FRAME)
        need = weight(plan, imaged(BOOK, plan, WORTH))
        rows = (SAY, ("put", L + TAIL + TAIL, numbers(1, 2)), SAY)
        left = WORTH[:7] + (numbers(5, 6, 1, 2),)
        more = weight(plan, imaged(BOOK, plan, left))
        for room in (need, more - 1):
            self.told(rows, (1,), "full", (1, 1), 2, plan=plan, room=room)
        for room in (more, 2048):
            self.told(rows, (1, 1), left=left, plan=plan, room=room)
        self.told(rows, (1, 1), left=left)
        self.told(rows, (1, 1), left=left, room=0)
        rows = (("while", YES, (("copy", L + TAIL, L),)),)
        # One box lies around the list, so that it has at most eleven things.
        self.told(rows, (), "deep", (1, 0, 2, 0), 20, WORTH[:7] + (numbers(*(5,) * 10, 6),))

    def test_a_far_plan(self):
        frame = record(a=use("link"), b=use("link"))
        plan = ((frame, ("fields", 32, ((0, 1, False), (16, 1, False)))),)
        plan += tuple((kind, moved(form)) for kind, form in FAR_LINK)
        self.assertIsNone(planfault(FAR_BOOK, plan))
        worth = (((5, ((6, ()),)),), ())
        program = (frame, (("copy", (field("b"),), (field("a"), SOME, field("more"))), ("show", ())))
        need = weight(plan, imaged(FAR_BOOK, plan, worth))
        self.assertEqual(walked(FAR_BOOK, program, worth, plan=plan, room=need)[:2], ((), "full"))
        self.assertEqual(walked(FAR_BOOK, program, worth, plan=plan, room=need + 8)[1], "full")
        self.assertEqual(walked(FAR_BOOK, program, worth, plan=plan, room=need + 16)[4], (worth[0], ((6, ()),)))

    def test_asked_twice(self):
        dice = random.Random(91)
        for each in range(30):
            frame = random_frame(dice)
            program = random_program(dice, WORLD, frame)
            worth = random_worth(dice, WORLD, frame, 2)
            if misfit(WORLD, frame, worth) is None:
                told = walked(WORLD, program, worth)
                self.assertEqual(told, walked(WORLD, program, worth))
                self.assertIsNone(misfit(WORLD, frame, told[4]))

    def test_walked_by_single_deeds(self):
        """Programs without others in them do what done, reckoned and gone tell of each statement."""
        dice = random.Random(92)
        seen = set()
        for each in range(300):
            frame = random_frame(dice)
            worth = random_worth(dice, WORLD, frame, 2)
            if misfit(WORLD, frame, worth) is not None:
                continue
            program = random_program(dice, WORLD, frame, 0.9, many=12, far=0.6)
            rows = tuple(row for row in program[1] if row[0] not in ("if", "while", "pick"))
            self.assertEqual(walked(WORLD, (frame, rows), worth), self.by_hand(frame, rows, worth, seen))
        self.assertGreaterEqual(seen, {"worth", "number", "truth", "path", "arm", "nought", "range"})

    def by_hand(self, frame, rows, worth, seen):
        answers = ()
        for place, statement in enumerate(rows):
            if statement[0] == "say":
                word, told = reckoned(WORLD, frame, worth, statement[1])
            elif statement[0] == "show":
                word, told = gone(WORLD, frame, worth, statement[1])
                if word == "path":
                    told = part(WORLD, frame, worth, told)
            else:
                word, told = done(WORLD, frame, worth, statement)
                if word == "worth":
                    worth = told
            seen.add(told if word == "end" else word)
            if word == "end":
                return (answers, told, (1, place), place + 1, worth)
            if word != "worth":
                answers += (told,)
        return (answers, "done", (), len(rows), worth)


def moved(form):
    """The form with each entry one further on."""
    if form[0] in ("same", "point"):
        return (form[0], form[1] + 1)
    if form[0] == "fields":
        return form[:2] + (tuple((place, entry + 1, far) for place, entry, far in form[2]),)
    if form[0] == "pick":
        arms = tuple((code, place, entry if entry == -1 else entry + 1, far) for code, place, entry, far in form[5])
        return form[:5] + (arms,)
    return form


class WalkedRefusalTest(unittest.TestCase):
    frame = record(a=LIST8)
    plan = planned(LIST, record(a=LIST8))
    program = (record(a=LIST8), (SAY,))
    worth = (numbers(1),)

    def refused(self, *told, book=LIST, program=None, worth=None, **named):
        program = self.program if program is None else program
        worth = self.worth if worth is None else worth
        self.assertEqual(refusal(walked, book, program, worth, **named), told)

    def test_bad_book(self):
        for book, place, why in ((WRONG_BOOK, (0, 0), "name"), (None, (), "book"), ((None,), (0,), "entry")):
            self.refused("BadBook", place, why, book=book)
            self.refused("BadBook", place, why, book=book, program=7, worth=7, plan=7, room=0)

    def test_bad_program(self):
        for program in NO_THINGS + ((self.frame, (None,)), (N8, ())):
            place, why = programfault(LIST, program)
            if program is not None:
                self.refused("BadProgram", place, why, program=program)
                self.refused("BadProgram", place, why, program=program, worth=7, plan=7, room=0)
        self.assertEqual(refusal(walked, LIST, None, self.worth), ("BadProgram", (), "form"))

    def test_misfit(self):
        for worth in ((), (NIL, NIL), (numbers(256),), (numbers(*range(13)),), 5):
            self.refused("Misfit", misfit(LIST, self.frame, worth), worth=worth)
            self.refused("Misfit", misfit(LIST, self.frame, worth), worth=worth, plan=7, room=0)
        self.assertEqual(refusal(walked, LIST, self.program, None), ("Misfit", ()))

    def test_bad_plan(self):
        for plan in NO_THINGS[1:] + (self.plan[:1], ((T, ("slot", 3)),)):
            self.refused("BadPlan", *planfault(LIST, plan), plan=plan)
            self.refused("BadPlan", *planfault(LIST, plan), plan=plan, room=0)

    def test_bad_plan_of_another_frame(self):
        for kind in (record(b=LIST8), LIST8, T, record(a=LIST8, b=T), record()):
            self.refused("BadPlan", 0, "frame", plan=planned(LIST, kind))
            self.refused("BadPlan", 0, "frame", plan=planned(LIST, kind), room=0)

    def test_full(self):
        need = weight(self.plan, imaged(LIST, self.plan, self.worth))
        self.assertEqual(need, 16)
        for room in (0, 8, 15):
            self.refused("Full", need, room, plan=self.plan, room=room)
        for room in (16, 17, 2048):
            self.assertIsNone(refusal(walked, LIST, self.program, self.worth, plan=self.plan, room=room))
        self.assertIsNone(refusal(walked, LIST, self.program, self.worth, room=0))
        frame = record(a=box(row(16, row(4, nat(64)))))
        worth = (((1,) * 4,) * 16,)
        plan = planned((), frame)
        self.assertEqual(refusal(walked, (), (frame, ()), worth, plan=plan), ("Full", 520, 512))


if __name__ == "__main__":
    unittest.main()
