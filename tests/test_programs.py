"""Whether a thing is a program, and its first fault: G1 to G4."""

import random
import unittest

from packedforms.programs import MOST_EXPRESSIONS, MOST_STATEMENTS, MOST_STEPS, programfault
from packedforms.worths import misfit, sizeof
from tests.planning import changed
from tests.test_paths import SOME, arm, at, field
from tests.things import (BOXES, HEIGHT_11, HIGH_BOOK, LIST, LIST8, N8, NONE, NO_THINGS, SPAN_400, T, THIRTEEN,
                          WRONG_BOOK,
                          box, deep, hole, maybe, nat, record, row, use, variant, whole)

FRAME = record(n=N8, i=whole(16), t=T, r=row(3, N8), g=row(2, row(2, T)), v=variant(a=N8, b=T, c=NONE), m=maybe(N8),
               l=box(LIST8))
BOOK = LIST
N, I, T_AT, R, G, V, M, L = [(field(name),) for name in "nitrgvml"]
ONE, YES, NO = ("number", 1), ("truth", True), ("truth", False)
SAY = ("say", ONE)


def get(place):
    return ("get", place)


def thing(rows, frame=FRAME):
    return (frame, rows)


def nested(word, many, inner):
    """An expression around which so many others lie."""
    for each in range(many):
        inner = (word, inner) if word == "not" else (word, inner, ONE)
    return inner


class ProgramTest(unittest.TestCase):
    def right(self, *rows, frame=FRAME, book=BOOK):
        self.assertIsNone(programfault(book, thing(rows, frame)))

    def told(self, rows, place, why, frame=FRAME, book=BOOK):
        self.assertEqual(programfault(book, thing(rows, frame)), (place, why))

    def row(self, statement, place, why, frame=FRAME, book=BOOK):
        """A fault in a statement: by itself, behind another one, and in another one."""
        self.told((statement,), (1, 0) + place, why, frame, book)
        self.told((SAY, statement), (1, 1) + place, why, frame, book)
        self.told((("while", YES, (SAY, statement)),), (1, 0, 2, 1) + place, why, frame, book)

    def expression(self, one, place, why, frame=FRAME, book=BOOK):
        """A fault in an expression: said, and on either side of another one."""
        self.row(("say", one), (1,) + place, why, frame, book)
        self.row(("say", ("like", one, ONE)), (1, 1) + place, why, frame, book)
        self.row(("say", ("and", YES, one)), (1, 2) + place, why, frame, book)

    def test_constants(self):
        self.assertEqual((MOST_STATEMENTS, MOST_EXPRESSIONS, MOST_STEPS), (40, 120, 240))

    def test_programs(self):
        self.right()
        self.right(("set", N, ONE), ("set", I, ("number", -1)), ("set", T_AT, YES), ("set", R + (at(ONE),), ONE))
        self.right(("put", N, 5), ("put", (), (1, -1, True, (1, 2, 3), ((True, True),) * 2, ("a", 1), (), ("nil", ()))))
        self.right(("put", V, ("c", ())), ("put", M, ()), ("put", L, ("cons", (1, ("nil", ())))))
        self.right(("copy", N, R + (at(ONE),)), ("swap", R + (at(ONE),), R + (at(("number", 2)),)), ("copy", L, L))
        self.right(("swap", (), ()), ("say", YES), ("say", ONE), ("show", ()), ("show", L), ("show", V + (arm("c"),)))
        self.right(("if", YES, (), ()), ("if", YES, (SAY,), (SAY, SAY)), ("while", NO, ()), ("while", NO, (SAY,)))
        self.right(("pick", V, (("a", ()), ("b", (SAY,)), ("c", ()))), ("pick", M, (("none", (SAY,)), ("some", ()))))
        self.right(("pick", L, (("nil", ()), ("cons", (("show", L + (arm("cons"), field("head"))),)))))

    def test_expressions(self):
        for word in ("add", "sub", "mul", "div", "rem"):
            self.right(("set", N, (word, ONE, get(N))), ("say", (word, get(I), ONE)))
        self.right(("if", ("less", ONE, get(I)), (), ()), ("set", T_AT, ("less", get(N), ONE)))
        self.right(("set", T_AT, ("like", ONE, get(N))), ("set", T_AT, ("like", YES, get(T_AT))))
        self.right(("set", T_AT, ("not", get(T_AT))), ("set", T_AT, ("and", YES, NO)), ("set", T_AT, ("or", YES, NO)))
        for name in ("a", "b", "c"):
            self.right(("set", T_AT, ("is", V, name)))
        for name in ("none", "some"):
            self.right(("say", ("is", M, name)))
        self.right(("say", ("is", L, "cons")), ("say", get(V + (arm("b"),))), ("say", get(M + (SOME,))))
        self.right(("say", get(R + (at(("add", get(N), ONE)),))), ("say", get(G + (at(ONE), at(get(R + (at(ONE),)))))))

    def test_other_frames(self):
        self.right(("show", ()), frame=NONE, book=())
        self.right(("say", get(N)), frame=record(n=box(box(nat(64)))), book=())
        self.right(("say", get(N)), frame=record(n=use("one", N8)), book=BOXES)
        self.right(("put", N, 0), frame=record(n=nat(1)), book=())

    def test_book(self):
        for book in NO_THINGS + (WRONG_BOOK,):
            if book != ():
                for one in (thing(()), None, thing(None, None)):
                    self.assertEqual(programfault(book, one), ((), "book"))

    def test_form(self):
        for one in NO_THINGS + ((FRAME,), (FRAME, (), ()), FRAME[1], deep(280), "ab", (None, None, None)):
            if not (type(one) is tuple and len(one) == 2):
                self.assertEqual(programfault(BOOK, one), ((), "form"))

    def test_frame(self):
        for frame in NO_THINGS + (N8, T, row(2, T), variant(a=T), maybe(T), box(record()), LIST8, use("list", record()),
                                  record(a=hole("a")), record(a=nat(65)), ("record",), ("record", None),
                                  record(a=use("other"))):
            self.told((), (0,), "frame", frame)
            self.told(None, (0,), "frame", frame)
        self.told((), (0,), "frame", record(a=HEIGHT_11), HIGH_BOOK)
        self.told((), (0,), "frame", record(a=SPAN_400), ())
        self.told((), (0,), "frame", record(a=use("a")), (("a", (), record(x=use("a"))),))

    def test_rows(self):
        for rows in (None, True, 0, "", "ab", 10 ** 400):
            self.told(rows, (1,), "rows")
            self.row(("if", YES, rows, ()), (2,), "rows")
            self.row(("if", YES, (), rows), (3,), "rows")
            self.row(("while", YES, rows), (2,), "rows")
            self.row(("pick", M, (("none", rows), ("some", ()))), (2, 0, 1), "rows")
            self.row(("pick", M, (("none", ()), ("some", rows))), (2, 1, 1), "rows")

    def test_many_statements(self):
        self.right(*(SAY,) * 40)
        self.told((SAY,) * 41, (1, 40), "many")
        self.told((SAY,) * 40 + (None,), (1, 40), "many")
        self.told((SAY,) * 39 + (None,) * 2, (1, 39), "form")
        self.right(("if", YES, (SAY,) * 19, (SAY,) * 19), SAY)
        self.told((("if", YES, (SAY,) * 19, (SAY,) * 19), SAY, SAY), (1, 2), "many")
        self.told((("if", YES, (SAY,) * 20, (SAY,) * 20),), (1, 0, 3, 19), "many")
        self.told((("while", YES, (SAY,) * 40),), (1, 0, 2, 39), "many")
        self.told((("pick", M, (("none", (SAY,) * 20), ("some", (SAY,) * 20))),), (1, 0, 2, 1, 1, 19), "many")

    def test_deep_statements(self):
        def inside(many, inner, word="while"):
            for each in range(many):
                inner = {"while": ("while", YES, (inner,)), "if": ("if", YES, (), (inner,)),
                         "pick": ("pick", M, (("none", ()), ("some", (inner,))))}[word]
            return inner

        for word, way in (("while", (2, 0)), ("if", (3, 0)), ("pick", (2, 1, 1, 0))):
            self.right(inside(3, SAY, word))
            self.told((inside(4, SAY, word),), (1, 0) + way * 4, "deep")
            self.told((inside(4, None, word),), (1, 0) + way * 4, "deep")
            self.told((inside(3, None, word),), (1, 0) + way * 3, "form")
            self.told((inside(6, SAY, word),), (1, 0) + way * 4, "deep")
        self.right(inside(3, ("while", YES, ())))
        self.told((SAY,) * 36 + (inside(4, SAY),), (1, 36) + (2, 0) * 4, "many")
        self.told((SAY,) * 35 + (inside(4, SAY),), (1, 35) + (2, 0) * 4, "deep")

    def test_form_of_statements(self):
        for one in NO_THINGS + (("set",), ("set", N), ("set", N, ONE, ONE), ("put", N), ("copy", N), ("swap", N, N, N),
                                ("say",), ("say", ONE, ONE), ("show",), ("show", (), ()), ("if", YES, ()),
                                ("if", YES, (), (), ()), ("while", YES), ("while", YES, (), ()), ("pick", V),
                                ("pick", V, (), ()), ("Set", N, ONE), ("add", ONE, ONE), ("number", 1), (None, N, ONE),
                                (("set",), N, ONE), (True, N, ONE), "set", ("sets", N, ONE), ("end",)):
            self.row(one, (), "form")

    def test_place(self):
        book = (("deep", (), row(1, row(1, row(1, row(1, T))))),)
        frame = record(a=row(1, row(1, row(1, use("deep")))))
        zero = at(("number", 0))
        self.right(("say", get((field("a"),) + (zero,) * 7)), frame=frame, book=book)
        self.row(("say", get((field("a"),) + (zero,) * 8)), (1, 1), "place", frame, book)
        self.row(("show", (None,) * 9), (1,), "place", frame, book)
        for one in (None, True, 0, "", "n", 10 ** 400, (None,) * 9):
            for statement, way in ((("set", one, ONE), (1,)), (("put", one, 5), (1,)), (("copy", one, N), (1,)),
                                   (("copy", N, one), (2,)), (("swap", one, N), (1,)), (("swap", N, one), (2,)),
                                   (("show", one), (1,)), (("pick", one, ()), (1,)), (("say", get(one)), (1, 1)),
                                   (("say", ("is", one, "a")), (1, 1))):
                self.row(statement, way, "place")

    def test_step(self):
        for one in NO_THINGS + (field("z"), ("field",), ("field", "n", 0), at(ONE), arm("a"), SOME, ("field", True),
                                ("field", deep(200)), "field"):
            self.row(("show", (one,)), (1, 0), "step")
        for place, step in ((N + (field("n"),), 1), (R + (("at",),), 1), (R + (("at", ONE, ONE),), 1), (R + (SOME,), 1),
                            (V + (arm("d"),), 1), (V + (SOME,), 1), (M + (("some", 0),), 1), (M + (arm("some"),), 1),
                            (R + (at(ONE), at(ONE)), 2), (L + (arm("cons"), field("tale")), 2), (V + (at(ONE),), 1)):
            for statement, way in ((("show", place), (1,)), (("set", place, None), (1,)), (("copy", N, place), (2,)),
                                   (("say", get(place)), (1, 1)), (("say", ("is", place, None)), (1, 1)),
                                   (("pick", place, None), (1,))):
                self.row(statement, way + (step,), "step")

    def test_a_step_ahead_of_its_expression(self):
        self.row(("show", N + (at(None),)), (1, 1), "step")
        self.row(("show", R + (at(None),)), (1, 1, 1), "form")
        self.row(("show", R + (at(None), None)), (1, 1, 1), "form")
        self.row(("show", R + (at(ONE), None)), (1, 2), "step")

    def test_thirteen_boxes_on_the_way(self):
        chain = record(c=use("chain"))
        self.right(("show", (field("c"),) + (SOME,) * 7), frame=chain, book=BOXES)
        frame = record(a=row(2, THIRTEEN), b=THIRTEEN)
        self.right(("show", ()), ("show", (field("a"),)), frame=frame, book=BOXES)
        self.row(("show", (field("b"),)), (1, 0), "step", frame, BOXES)
        self.row(("show", (field("a"), at(None))), (1, 1), "step", frame, BOXES)
        self.row(("show", (field("b"), None)), (1, 0), "step", frame, BOXES)
        frame = record(a=use("six", use("six", use("chain"))))
        book = BOXES
        self.right(("show", (field("a"),)), frame=frame, book=book)
        self.row(("show", (field("a"), SOME)), (1, 1), "step", frame, book)

    def test_many_steps(self):
        place = G + (at(ONE), at(ONE))
        twenty = (("show", place),) * 20
        self.right(*twenty)
        place = L + (arm("cons"), field("tail"), arm("cons"), field("tail"), arm("cons"), field("tail"), arm("cons"))
        self.assertEqual(len(place), 8)
        self.right(*(("show", place),) * 30)
        self.told((("show", place),) * 31, (1, 30, 1, 0), "many")
        self.told((("show", place),) * 30 + (("show", (None,)),), (1, 30, 1, 0), "many")
        self.told((("show", place),) * 30 + (("show", None),), (1, 30, 1), "place")
        self.right(*(("show", place),) * 30 + (("show", ()), SAY))
        self.told((("show", place),) * 29 + (("show", N), ("show", place)), (1, 30, 1, 7), "many")
        self.told((("swap", place, place),) * 15 + (("say", get(N)),), (1, 15, 1, 1, 0), "many")
        self.right(*(("swap", place, place),) * 14, ("show", place), ("show", place[:6]), ("show", R + (at(ONE),)))
        self.told((("swap", place, place),) * 14 + (("show", place), ("show", place[:6]), ("show", R + (at(get(N)),))),
                  (1, 16, 1, 1, 1, 1, 0), "many")

    def test_kind(self):
        for place in ((), R, R[:0], V, M, L, V + (arm("c"),), G + (at(ONE),)):
            self.row(("set", place, ONE), (1,), "kind")
            self.row(("set", place, None), (1,), "kind")
            self.expression(get(place), (1,), "kind")
        for place in ((), N, R, T_AT, I, M + (SOME,), L + (arm("cons"),)):
            self.row(("pick", place, ()), (1,), "kind")
            self.expression(("is", place, "a"), (1,), "kind")
            self.expression(("is", place, None), (1,), "kind")

    def test_kinds_written_alike(self):
        for word in ("copy", "swap"):
            for one, other in ((N, I), (N, T_AT), (N, R), (R, G), (V, M), (L, V), ((), N), (N, ()), (M, M + (SOME,))):
                self.row((word, one, other), (2,), "kind")
            for one, other in ((N, N), (N, R + (at(ONE),)), (M + (SOME,), V + (arm("a"),)), (T_AT, V + (arm("b"),)),
                               (L, L + (arm("cons"), field("tail")))):
                self.right((word, one, other), (word, other, one))
        frame = record(a=record(x=N8), b=record(y=N8), c=record(x=N8), d=row(2, T), e=row(3, T), f=nat(9), g=box(N8),
                       h=N8)
        for one, other, fits in (("a", "b", False), ("a", "c", True), ("d", "e", False), ("f", "h", False),
                                 ("g", "h", True)):
            statement = ("copy", (field(one),), (field(other),))
            self.assertEqual(programfault((), thing((statement,), frame)), None if fits else ((1, 0, 2), "kind"))

    def test_many_expressions(self):
        both = ("say", ("add", ONE, ONE))
        self.right(*(both,) * 40)
        four = ("say", ("add", ("add", ONE, ONE), ("add", ONE, ("add", ONE, ("number", 1)))))
        nine = ("say", ("add", ("add", ONE, ONE), ("add", ONE, ("add", ONE, ("add", ONE, ONE)))))
        self.right(*(nine,) * 10, ("say", nested("add", 4, ONE)))
        self.right(*(nine,) * 10)
        self.told((nine,) * 11 + (SAY,), (1, 10, 1, 2, 2, 2, 2), "many")
        self.right(*(four,) * 13, *(SAY,) * 3)
        self.told((four,) * 13 + (SAY,) * 4, (1, 16, 1), "many")
        self.told((four,) * 13 + (SAY,) * 3 + (("say", None),), (1, 16, 1), "many")
        self.told((four,) * 13 + (SAY,) * 2 + (("say", None),), (1, 15, 1), "form")
        self.told((four,) * 13 + (SAY,) * 3 + (("show", R + (at(ONE),)),), (1, 16, 1, 1, 1), "many")
        self.told((four,) * 13 + (SAY,) * 2 + (("say", get(R + (at(ONE),))),), (1, 15, 1, 1, 1, 1), "many")
        self.told((four,) * 13 + (SAY,) * 3 + (("if", YES, None, None),), (1, 16, 1), "many")

    def test_deep_expressions(self):
        for word, inner in (("not", YES), ("add", ONE)):
            self.right(("say", nested(word, 5, inner)))
            self.row(("say", nested(word, 6, inner)), (1,) + (1,) * 6, "deep")
            self.row(("say", nested(word, 6, None)), (1,) + (1,) * 6, "deep")
            self.row(("say", nested(word, 5, None)), (1,) + (1,) * 5, "form")
            self.row(("say", nested(word, 9, inner)), (1,) + (1,) * 6, "deep")
        self.right(("set", N, nested("add", 5, ONE)))
        self.row(("set", N, nested("add", 6, ONE)), (2,) + (1,) * 6, "deep")
        for word in ("if", "while"):
            rest = ((), ())[:2 if word == "if" else 1]
            self.right((word, nested("not", 5, YES)) + rest)
            self.row((word, nested("not", 6, YES)) + rest, (1,) + (1,) * 6, "deep")

    def test_expressions_in_the_places_of_statements_lie_in_none(self):
        frame = record(r=row(2, N8), v=row(2, maybe(N8)))
        for many in (5, 6):
            r, v = [(field(name), at(nested("add", many, ONE))) for name in "rv"]
            for statement, way in ((("set", r, ONE), 1), (("put", r, 1), 1), (("copy", r, r[:1] + (at(ONE),)), 1),
                                   (("copy", r[:1] + (at(ONE),), r), 2), (("swap", r[:1] + (at(ONE),), r), 2),
                                   (("show", v), 1), (("pick", v, (("none", ()), ("some", ()))), 1)):
                if many == 5:
                    self.right(statement, frame=frame)
                else:
                    self.row(statement, (way, 1, 1) + (1,) * 6, "deep", frame)

    def test_expressions_in_steps_lie_in_what_has_the_place(self):
        self.right(("show", R + (at(nested("add", 5, ONE)),)))
        self.row(("show", R + (at(nested("add", 6, ONE)),)), (1, 1, 1) + (1,) * 6, "deep")
        self.right(("say", get(R + (at(nested("add", 4, ONE)),))))
        self.row(("say", get(R + (at(nested("add", 5, ONE)),))), (1, 1, 1, 1) + (1,) * 5, "deep")
        frame = record(r=row(2, row(2, N8)), v=row(2, variant(a=N8)))
        self.right(("say", ("is", (field("v"), at(nested("add", 4, ONE))), "a")), frame=frame)
        self.row(("say", ("is", (field("v"), at(nested("add", 5, ONE))), "a")), (1, 1, 1, 1) + (1,) * 5, "deep", frame)
        inner = ONE
        for each in range(5):
            inner = get(R + (at(inner),))
        self.right(("say", inner))
        self.row(("say", get(R + (at(inner),))), (1,) + (1, 1, 1) * 6, "deep")
        self.right(("say", nested("add", 5, get(N))))
        self.row(("say", nested("add", 5, get(R + (at(ONE),)))), (1,) + (1,) * 5 + (1, 1, 1), "deep")

    def test_form_of_expressions(self):
        for one in NO_THINGS + (("number",), ("number", 1, 1), ("truth",), ("get",), ("get", N, N), ("add", ONE),
                                ("add", ONE, ONE, ONE), ("not",), ("not", YES, YES), ("and", YES), ("is", V),
                                ("or", YES),
                                ("is", V, "a", "b"), ("less", ONE), ("like", ONE), ("set", N, ONE), ("Number", 1),
                                (True, 1), (("number",), 1), "number", ("say", ONE), ("mul",), ("sub", ONE),
                                ("div", ONE),
                                ("rem", ONE)):
            self.expression(one, (), "form")

    def test_numbers(self):
        for number in (0, 1, -1, 2 ** 64, -2 ** 64, 2 ** 64 - 1):
            self.right(("say", ("number", number)), ("set", N, ("number", number)))
        for number in (2 ** 64 + 1, -2 ** 64 - 1, 10 ** 400, True, False, None, "1", (), (1,), deep(270)):
            self.expression(("number", number), (), "form")

    def test_truths(self):
        self.right(("say", YES), ("say", NO))
        for truth in (0, 1, None, "True", (), (True,), deep(270)):
            self.expression(("truth", truth), (), "form")

    def test_sort(self):
        for word in ("add", "sub", "mul", "div", "rem", "less"):
            self.row(("say", (word, YES, ONE)), (1, 1), "sort")
            self.row(("say", (word, ONE, YES)), (1, 2), "sort")
            self.row(("say", (word, get(T_AT), None)), (1, 1), "sort")
            self.row(("say", (word, None, YES)), (1, 1), "form")
        for word in ("and", "or"):
            self.row(("say", (word, ONE, YES)), (1, 1), "sort")
            self.row(("say", (word, YES, get(N))), (1, 2), "sort")
        self.row(("say", ("not", ONE)), (1, 1), "sort")
        self.row(("say", ("like", ONE, YES)), (1, 2), "sort")
        self.row(("say", ("like", YES, ONE)), (1, 2), "sort")
        self.row(("say", ("like", get(T_AT), get(N))), (1, 2), "sort")
        self.row(("say", ("like", ("less", ONE, ONE), ("add", ONE, ONE))), (1, 2), "sort")

    def test_sorts_of_expressions(self):
        numbers = [ONE, get(N), get(I), get(R + (at(ONE),))] + [(word, ONE, ONE) for word in
                                                               ("add", "sub", "mul", "div", "rem")]
        truths = [YES, get(T_AT), get(V + (arm("b"),)), ("less", ONE, ONE), ("like", ONE, ONE), ("like", YES, YES),
                  ("not", YES), ("and", YES, YES), ("or", YES, YES), ("is", V, "a"), ("is", M, "none")]
        for one in numbers:
            self.right(("set", N, one), ("set", I, one), ("set", R + (at(one),), one), ("say", ("like", one, ONE)))
            self.row(("set", T_AT, one), (2,), "sort")
            self.row(("if", one, (), ()), (1,), "sort")
            self.row(("if", one, None, None), (1,), "sort")
            self.row(("while", one, ()), (1,), "sort")
        for one in truths:
            self.right(("set", T_AT, one), ("if", one, (), ()), ("while", one, ()), ("say", ("like", one, YES)))
            self.row(("set", N, one), (2,), "sort")
            self.row(("set", I, one), (2,), "sort")
            self.row(("show", R + (at(one),)), (1, 1, 1), "sort")
            self.row(("show", R + (at(one), None)), (1, 1, 1), "sort")

    def test_sort_is_told_last(self):
        self.row(("set", N, ("and", None, YES)), (2, 1), "form")
        self.row(("set", N, ("and", YES, ONE)), (2, 2), "sort")
        self.row(("set", N, ("and", YES, YES)), (2,), "sort")
        self.row(("set", N, get(V)), (2, 1), "kind")
        self.row(("set", N, ("is", V, "z")), (2, 2), "arm")

    def test_worth(self):
        for place, worth in ((N, 256), (N, True), (N, None), (T_AT, 1), (T_AT, 0), (R, (1, 2)), (R, (1, 2, 256)),
                             (V, ("d", 1)), (V, ("a", True)), (M, (1, 2)), (M, 1), (L, ()), ((), ()), (N, deep(270)),
                             (R + (at(ONE),), -1), (I, 32768), (V + (arm("c"),), 0)):
            self.row(("put", place, worth), (2,), "worth")
        self.right(("put", I, -32768), ("put", R + (at(("number", 99)),), 255))

    def test_worths_of_four_boxes(self):
        def numbers(many):
            worth = ("nil", ())
            for each in range(many):
                worth = ("cons", (each, worth))
            return worth

        for many in range(8):
            self.assertEqual(programfault(BOOK, thing((("put", L, numbers(many)),))),
                             None if many <= 4 else ((1, 0, 2), "worth"))
        tail = L + (arm("cons"), field("tail"))
        self.right(("put", tail, numbers(4)))
        self.row(("put", tail, numbers(5)), (2,), "worth")
        frame = record(a=T, l=box(LIST8))
        self.right(("put", (), (True, numbers(3))), frame=frame)
        self.row(("put", (), (True, numbers(4))), (2,), "worth", frame)

    def test_worths_of_200_parts(self):
        things = row(3, row(13, row(4, N8)))
        worth = (((0,) * 4,) * 13,) * 3
        self.assertEqual(sizeof((), things, worth), 199)
        for kind, told, fits in ((record(a=things), (worth,), True), (record(a=things, b=T), (worth, True), False),
                                 (things, worth, True), (maybe(things), (worth,), True),
                                 (maybe(maybe(things)), ((worth,),), False), (maybe(maybe(things)), ((),), True)):
            frame = record(x=kind)
            self.assertEqual(misfit((), kind, told, boxes=4, most=200) is None, fits)
            self.assertEqual(programfault((), thing((("put", (field("x"),), told),), frame)),
                             None if fits else ((1, 0, 2), "worth"))

    def test_arm(self):
        for name in NO_THINGS + ("d", "none", "some", "A", ("a",)):
            self.expression(("is", V, name), (2,), "arm")
        for name in NO_THINGS + ("a", "None", "non"):
            self.expression(("is", M, name), (2,), "arm")
        self.expression(("is", L, "head"), (2,), "arm")

    def test_arms(self):
        right = (("a", ()), ("b", ()), ("c", ()))
        for pairs in NO_THINGS + (right[:2], right + right[:1], right[::-1], (("a", ()), ("c", ()), ("b", ())),
                                  (("a", ()), ("b", ()), ("d", ())), (("a", ()), ("b", ()), ("c",)),
                                  (("a", ()), ("b", ()), ("c", (), ())), (("a", ()), ("b", ()), None),
                                  (("a", ()), ("b", ()), "cd"), (("a", ()), ("b", ()), (None, ())),
                                  (("a", ()), ("b", ()), (True, ())), (("a", None), ("b", ())),
                                  (("a", ()), (deep(200), ()), ("c", ()))):
            self.row(("pick", V, pairs), (2,), "arms")
        for pairs in (right, (("some", ()), ("none", ())), (("none", ()),), ()):
            self.row(("pick", M, pairs), (2,), "arms")
        self.row(("pick", V, (("a", None), ("b", ()), ("z", ()))), (2,), "arms")

    def test_rows_within_statements(self):
        bad = ("set", N, YES)
        for statement, way in ((("if", YES, (bad,), ()), (2, 0, 2)), (("if", YES, (), (SAY, bad)), (3, 1, 2)),
                               (("while", YES, (SAY, SAY, bad)), (2, 2, 2)),
                               (("pick", V, (("a", ()), ("b", (bad,)), ("c", ()))), (2, 1, 1, 0, 2)),
                               (("pick", M, (("none", ()), ("some", (SAY, bad)))), (2, 1, 1, 1, 2))):
            self.row(statement, way, "sort")

    def test_from_left_to_right(self):
        self.row(("set", None, None), (1,), "place")
        self.row(("set", N, None), (2,), "form")
        self.row(("put", (None,), None), (1, 0), "step")
        self.row(("copy", None, None), (1,), "place")
        self.row(("swap", N, None), (2,), "place")
        self.row(("if", None, None, None), (1,), "form")
        self.row(("if", YES, None, None), (2,), "rows")
        self.row(("if", YES, (None,), None), (2, 0), "form")
        self.row(("pick", None, None), (1,), "place")
        self.row(("say", ("is", None, None)), (1, 1), "place")
        self.row(("say", ("add", None, None)), (1, 1), "form")
        self.row(("say", ("add", ONE, None)), (1, 2), "form")
        self.row(("say", ("like", None, YES)), (1, 1), "form")

    def test_two_faults_at_once(self):
        """Faults added one by one from the last on, so that the first one is told each time."""
        program = thing((("set", R + (at(get(N)),), ("add", ONE, ("like", ONE, ONE))), ("say", YES)))
        for place, other, told, why in (((1, 0, 2, 2), ("like", ONE, YES), (1, 0, 2, 2, 2), "sort"),
                                        ((1, 0, 2, 1), ("number", True), (1, 0, 2, 1), "form"),
                                        ((1, 0, 1, 1, 1), get(V), (1, 0, 1, 1, 1, 1), "kind"),
                                        ((1, 0, 1, 1), SOME, (1, 0, 1, 1), "step"),
                                        ((1, 0, 1), None, (1, 0, 1), "place"),
                                        ((1, 0), ("set",), (1, 0), "form"), ((1,), None, (1,), "rows"),
                                        ((0,), N8, (0,), "frame")):
            program = changed(program, place, other)
            self.assertEqual(programfault(BOOK, program), (told, why))
        self.assertEqual(programfault(None, program), ((), "book"))

    def test_any_written_thing(self):
        for one in (deep(280), thing(deep(279)), thing((deep(270),)), (deep(279), ()), thing((("say", deep(270)),)),
                    thing((("show", deep(270)),)), thing((("put", N, deep(270)),)), thing((("pick", V, deep(270)),)),
                    thing((("is", V, deep(270)),)), thing((("if", YES, deep(200), ()),))):
            self.assertIsNotNone(programfault(BOOK, one))
            self.assertEqual(programfault(BOOK, one), programfault(BOOK, one))

    def test_bent_programs(self):
        """Whatever stands at any place, there is an answer; a fault's place leads to a thing, or just behind one."""
        dice = random.Random(83)
        rows = (("set", R + (at(get(N)),), ("add", ONE, get(I))), ("if", ("is", V, "a"), (("show", L),), (SAY,)),
                ("pick", M, (("none", (("put", N, 5),)), ("some", (("copy", N, M + (SOME,)),)))),
                ("while", ("and", YES, ("like", NO, get(T_AT))), (("swap", N, R + (at(ONE),)),)))
        self.right(*rows)
        others = NO_THINGS + (ONE, YES, N, R, V, get(N), get(T_AT), SAY, at(ONE), SOME, rows, "a", "set", "say")
        for each in range(3000):
            place, inner = (1,), rows
            while type(inner) is tuple and inner and dice.random() < 0.8:
                number = dice.randrange(len(inner))
                place, inner = place + (number,), inner[number]
            program = changed(thing(rows), place, dice.choice(others))
            fault = programfault(BOOK, program)
            if fault is not None:
                where, why = fault
                inner = program
                for number in where:
                    inner = inner[number]
                self.assertIn(why, ("rows", "many", "deep", "form", "place", "step", "kind", "sort", "worth", "arm",
                                    "arms"))


if __name__ == "__main__":
    unittest.main()
