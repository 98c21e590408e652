"""Books and the forms of kinds, bodies and parts: A2 to A5."""

import unittest

from packedforms.books import body, bookfault, formfault, parts
from tests.things import (I8, LIST, LIST8, N8, NONE, NO_THINGS, T, WRONG_BOOK, box, deep, hole, maybe, nat, record,
                          refusal, row, use, variant, whole)

NO_NAMES = (None, True, 0, 5, "", "A", "a1", "a b", "ab ", "aB", "a_b", "z~", "abcdefghijklm", (), ("a",), deep(280))


def entry(kind, name="x", holes=()):
    return (name, holes, kind)


def forty():
    """A kind of just 40 forms, and one of 41."""
    four = record(a=N8, b=N8, c=N8, d=N8)
    three = record(a=N8, b=N8, c=N8)
    rest = {name: four for name in "bcdefgh"}
    return record(a=three, **rest), record(a=four, **rest)


class BookFaultTest(unittest.TestCase):
    def told(self, book, place, why):
        self.assertEqual(bookfault(book), (place, why))
        self.assertEqual(formfault(book, N8), ((), "book"))
        self.assertEqual(formfault(book, None), ((), "book"))

    def test_right_books(self):
        for book in ((), LIST, (entry(T),), (entry(hole("a"), holes=("a",)),), (entry(use("y"), "x"), entry(T, "y"))):
            self.assertIsNone(bookfault(book))

    def test_book(self):
        for thing in NO_THINGS:
            if not isinstance(thing, tuple):
                self.told(thing, (), "book")
        self.told([], (), "book")

    def test_many(self):
        rows = tuple([entry(T, name) for name in "abcdefghijklm"])
        self.assertIsNone(bookfault(rows[:12]))
        self.told(rows, (), "many")
        self.told((None,) * 13, (), "many")

    def test_entry(self):
        for thing in (None, 0, "abc", (), ("x",), ("x", ()), ("x", (), T, T), deep(280)):
            self.told((thing,), (0,), "entry")
            self.told((entry(T), thing), (1,), "entry")

    def test_name(self):
        for thing in NO_NAMES:
            self.told((entry(T, thing),), (0, 0), "name")
        for name in ("a", "z", "az", "abcdefghijkl", "nat", "record"):
            self.assertIsNone(bookfault((entry(T, name),)))

    def test_twice(self):
        self.told((entry(T), entry(T)), (1, 0), "twice")
        self.told((entry(T, "a"), entry(T, "b"), entry(N8, "a")), (2, 0), "twice")
        self.assertIsNone(bookfault((entry(T, "a"), entry(T, "aa"))))

    def test_holes(self):
        for thing in (None, True, 0, "abc", ("a", "b", "c", "d")):
            self.told((entry(T, holes=thing),), (0, 1), "holes")
        self.assertIsNone(bookfault((entry(T, holes=("a", "b", "c")),)))

    def test_names_of_holes(self):
        for thing in NO_NAMES:
            self.told((entry(T, holes=(thing,)),), (0, 1, 0), "name")
            self.told((entry(T, holes=("a", "b", thing)),), (0, 1, 2), "name")
        self.told((entry(T, holes=("a", "a")),), (0, 1, 1), "twice")
        self.told((entry(T, holes=("a", "b", "a")),), (0, 1, 2), "twice")
        self.assertIsNone(bookfault((entry(T, "x", ("x",)), entry(T, "y", ("x", "y")))))

    def test_kinds_within(self):
        self.told((entry(T, "a"), entry(None, "b")), (1, 2), "kind")
        self.told((entry(record(a=T, b=maybe(nat(0)))),), (0, 2, 1, 1, 1, 1, 1), "bits")
        self.told((entry(use("y")),), (0, 2, 1), "unknown")
        self.told((entry(use("x", T)),), (0, 2, 2), "fills")

    def test_holes_that_may_stand(self):
        self.assertIsNone(bookfault((entry(record(a=hole("a"), b=hole("b")), holes=("b", "a")),)))
        self.told((entry(hole("b"), holes=("a",)),), (0, 2, 1), "hole")
        self.told((entry(T, "a", ("h",)), entry(maybe(hole("h")), "b")), (1, 2, 1, 1), "hole")
        self.told((entry(T, "a"), entry(use("b", hole("x")), "b", ("h",))), (1, 2, 2, 0, 1), "hole")

    def test_forms_are_counted_in_each_kind(self):
        right, wrong = forty()
        self.assertIsNone(bookfault((entry(right, "a"), entry(right, "b"))))
        self.told((entry(right, "a"), entry(wrong, "b")), (1, 2, 1, 7, 1, 1, 3, 1), "forms")

    def test_heads_go_ahead_of_kinds(self):
        self.told((entry(None, "a"), entry(T, "")), (1, 0), "name")
        self.told((entry(None, "a"), entry(T, "a")), (1, 0), "twice")
        self.told((entry(None, "a"), entry(T, "b", ("c", "c"))), (1, 1, 1), "twice")
        self.told((entry(None, "a"), None), (1,), "entry")

    def test_heads_go_one_by_one(self):
        self.told((entry(T, "", None), None), (0, 0), "name")
        self.told((entry(T, "a", None), None), (0, 1), "holes")
        self.told((entry(T, "a", ("", 5, "b")), entry(T, "a")), (0, 1, 0), "name")
        self.told((entry(T, "a", ("b", "b", 5)), entry(T, "a")), (0, 1, 1), "twice")
        self.told((entry(T, "a"), entry(T, "a", None)), (1, 0), "twice")
        self.told((entry(T, "a", ("a",) * 4),), (0, 1), "holes")

    def test_kinds_go_one_by_one(self):
        self.told((entry(T, "a"), entry(maybe(None), "b"), entry(None, "c")), (1, 2, 1), "kind")


class FormFaultTest(unittest.TestCase):
    def told(self, thing, place, why, book=LIST):
        self.assertEqual(formfault(book, thing), (place, why))
        if book == ():
            rows = (entry(thing),)
            if why != "unknown":
                self.assertEqual(bookfault(rows), ((0, 2) + place, why))

    def right(self, thing, book=LIST):
        self.assertIsNone(formfault(book, thing))

    def test_right_kinds(self):
        for kind in (N8, I8, T, NONE, variant(a=T), row(2, T), maybe(T), box(T), LIST8, record(a=LIST8, b=box(LIST8))):
            self.right(kind)

    def test_kind(self):
        others = ((True,), (None, 8), ("Nat", 8), ("number",), (("nat", 8),), ("list", N8), ("nat ", 8))
        for thing in NO_THINGS + others:
            self.told(thing, (), "kind", ())
            self.told(maybe(thing), (1,), "kind", ())
            self.told(row(2, thing), (2,), "kind")
            self.told(record(a=T, b=thing), (1, 1, 1), "kind")
            self.told(use("list", thing), (2, 0), "kind")

    def test_deep(self):
        self.right(maybe(N8, 7))
        self.told(maybe(N8, 8), (1,) * 8, "deep", ())
        self.told(box(row(2, record(a=variant(b=use("list", maybe(N8, 3)))))), (1, 2, 1, 0, 1, 1, 0, 1, 2, 0, 1, 1, 1),
                  "deep")
        self.right(box(row(2, record(a=variant(b=use("list", maybe(N8, 2)))))))

    def test_deep_among_others(self):
        self.told(maybe("x", 8), (1,) * 8, "kind", ())
        self.told(maybe(("nat",), 8), (1,) * 8, "deep", ())
        self.told(maybe(nat(0), 8), (1,) * 8, "deep", ())

    def test_forms(self):
        right, wrong = forty()
        self.right(right, ())
        self.told(wrong, (1, 7, 1, 1, 3, 1), "forms", ())

    def test_forms_are_all_words(self):
        one = record(a=N8, b=maybe(T), c=row(1, I8), d=variant(a=NONE), e=box(LIST8))
        named = {"a": one, "b": one, "c": N8, "d": record(a=T, b=T, c=T, d=T, e=T, f=T, g=T, h=T)}
        named["e"] = record(a=T, b=T, c=T, d=T)
        self.right(record(**named, f=T, g=T))
        self.told(record(**named, f=T, g=T, h=T), (1, 7, 1), "forms")

    def test_forms_among_others(self):
        four = record(a=N8, b=N8, c=N8, d=N8)
        rest = {name: four for name in "abcdefg"}
        last = record(a=N8, b=N8, c=N8, d=("nat",))
        self.told(record(h=last, **rest), (1, 0, 1, 1, 3, 1), "shape", ())
        self.told(record(**rest, h=last), (1, 7, 1, 1, 3, 1), "forms", ())
        self.told(record(**rest, h=record(a=N8, b=N8, c=N8, d=None)), (1, 7, 1, 1, 3, 1), "kind", ())

    def test_shape(self):
        for thing in (("nat",), ("nat", 8, 8), ("int",), ("truth", 1), ("record",), ("record", (), ()), ("variant",),
                      ("row", 2), ("row", 2, T, T), ("maybe",), ("maybe", T, T), ("box",), ("use",), ("use", "list"),
                      ("use", "list", (T,), T), ("hole",), ("hole", "a", "b")):
            self.told(thing, (), "shape")
            self.told(box(thing), (1,), "shape")

    def test_bits(self):
        for word in ("nat", "int"):
            for bits in (1, 2, 8, 63, 64):
                self.right((word, bits))
            for bits in (0, 65, -1, True, False, None, "8", (8,), 10 ** 100):
                self.told((word, bits), (1,), "bits", ())

    def test_parts(self):
        for word in ("record", "variant"):
            for thing in (None, True, 0, "ab"):
                self.told((word, thing), (1,), "parts", ())

    def test_many(self):
        rows = tuple([(name, T) for name in "abcdefghi"])
        self.right(("record", ()))
        self.right(("record", rows[:8]))
        self.told(("record", rows), (1,), "many", ())
        self.told(("record", (None,) * 9), (1,), "many", ())
        self.right(("variant", rows[:1]))
        self.right(("variant", rows[:8]))
        self.told(("variant", rows), (1,), "many", ())
        self.told(("variant", ()), (1,), "many", ())

    def test_many_of_a_row(self):
        for many in (1, 2, 16):
            self.right(row(many, T))
        for many in (0, 17, -1, True, None, "3", (3,), 10 ** 100):
            self.told(row(many, T), (1,), "many", ())
            self.told(row(many, None), (1,), "many", ())

    def test_unknown(self):
        for name in ("lis", "listt", "a", "", None, 0, True, ("list",), deep(270)):
            self.told(use(name, T), (1,), "unknown")
            self.told(("use", name, None), (1,), "unknown")
        self.told(use("list", T), (1,), "unknown", ())

    def test_fills(self):
        for thing in (None, 0, "a", (), (T, T), T + T):
            self.told(("use", "list", thing), (2,), "fills")
        self.told(("use", "list", (None,)), (2, 0), "kind")
        book = (entry(T, "none"), entry(T, "three", ("a", "b", "c")))
        self.right(use("none"), book)
        self.right(use("three", T, N8, use("none")), book)
        self.told(use("none", T), (2,), "fills", book)
        self.told(use("three", T, T), (2,), "fills", book)
        self.told(use("three", T, nat(0), None), (2, 1, 1), "bits", book)

    def test_hole(self):
        for name in ("a", "list", "", None, 0, ("a",)):
            self.told(hole(name), (1,), "hole", ())
            self.told(use("list", hole(name)), (2, 0, 1), "hole")

    def test_part(self):
        for word in ("record", "variant"):
            for thing in (None, 0, "ab", (), ("a",), ("a", T, T)):
                self.told((word, (thing,)), (1, 0), "part", ())
                self.told((word, (("a", T), thing)), (1, 1), "part", ())

    def test_names_of_parts(self):
        for word in ("record", "variant"):
            for thing in NO_NAMES:
                self.told((word, ((thing, T),)), (1, 0, 0), "name", ())
            self.told((word, (("a", T), ("b", T), ("a", N8))), (1, 2, 0), "twice", ())
            self.right((word, (("abcdefghijkl", T), ("a", T), ("aa", T))))

    def test_a_thing_goes_ahead_of_what_is_within(self):
        self.told(("record", ((None, None),)), (1, 0, 0), "name", ())
        self.told(("record", (("a", T), ("a", None))), (1, 1, 0), "twice", ())
        self.told(("nat", 0, 0), (), "shape", ())
        self.told(("row", 0, None), (1,), "many", ())

    def test_from_first_to_last(self):
        self.told(("record", (("a", maybe(None)), ("a", T))), (1, 0, 1, 1), "kind", ())
        self.told(("record", (("a", nat(0)), None)), (1, 0, 1, 1), "bits", ())
        self.told(("variant", (None, ("a", None))), (1, 0), "part", ())
        self.told(use("list", record(a=None, b=hole("a"))), (2, 0, 1, 0, 1), "kind")


PAIR = (("pair", ("a", "b"), record(left=hole("a"), right=hole("b"))),
        ("twist", ("a", "b"), record(one=use("pair", hole("b"), hole("a")), two=row(2, maybe(hole("a"))))),
        ("plain", (), N8),
        ("wide", ("a",), variant(x=box(hole("a")), y=use("wide", use("wide", hole("a"))), z=whole(5))))


class BodyTest(unittest.TestCase):
    def test_holes_are_put_in_at_each_place(self):
        self.assertEqual(body(PAIR, use("pair", N8, T)), record(left=N8, right=T))
        self.assertEqual(body(PAIR, use("plain")), N8)
        self.assertEqual(body(PAIR, use("twist", N8, T)), record(one=use("pair", T, N8), two=row(2, maybe(N8))))
        self.assertEqual(body(LIST, LIST8), variant(nil=NONE, cons=record(head=N8, tail=box(LIST8))))

    def test_a_fill_that_uses_the_same_declaration(self):
        inner = use("wide", T)
        self.assertEqual(body(PAIR, use("wide", inner)),
                         variant(x=box(inner), y=use("wide", use("wide", inner)), z=whole(5)))
        self.assertEqual(body(PAIR, use("pair", use("pair", N8, T), use("plain"))),
                         record(left=use("pair", N8, T), right=use("plain")))

    def test_holes_are_put_in_at_once(self):
        self.assertEqual(body(PAIR, use("pair", T, N8)), record(left=T, right=N8))
        swapped = (("swap", ("a", "b"), record(b=hole("a"), a=hole("b"))),)
        self.assertEqual(body(swapped, use("swap", nat(1), nat(2))), record(b=nat(1), a=nat(2)))

    def test_bodies_may_be_greater_than_kinds(self):
        book = (("eight", ("a",), ("record", tuple([(name, hole("a")) for name in "abcdefgh"]))),)
        fill = record(a=T, b=T, c=T, d=T, e=T)
        self.assertEqual(body(book, use("eight", fill)), ("record", tuple([(name, fill) for name in "abcdefgh"])))

    def test_refusals(self):
        for call in (body, parts):
            self.assertEqual(refusal(call, WRONG_BOOK, None), ("BadBook", (0, 0), "name"))
            self.assertEqual(refusal(call, None, use("plain")), ("BadBook", (), "book"))
            self.assertEqual(refusal(call, PAIR, None), ("BadKind", (), "kind"))
            self.assertEqual(refusal(call, PAIR, use("pair", N8)), ("BadKind", (2,), "fills"))
            self.assertEqual(refusal(call, PAIR, use("pair", N8, hole("a"))), ("BadKind", (2, 1, 1), "hole"))
            self.assertEqual(refusal(call, (), deep(280)), ("BadKind", (), "kind"))
        for kind in (N8, T, NONE, maybe(use("plain")), row(2, T), box(T)):
            self.assertEqual(refusal(body, PAIR, kind), ("BadKind", (), "use"))
        self.assertEqual(refusal(body, PAIR, nat(0)), ("BadKind", (1,), "bits"))


class PartsTest(unittest.TestCase):
    def test_parts_of_each_word(self):
        for kind in (N8, I8, T, NONE):
            self.assertEqual(parts((), kind), ())
        self.assertEqual(parts((), record(a=N8, b=T, c=N8)), (N8, T, N8))
        self.assertEqual(parts((), variant(b=T, a=I8)), (T, I8))
        self.assertEqual(parts((), row(5, T)), (T,))
        self.assertEqual(parts((), maybe(N8)), (N8,))
        self.assertEqual(parts((), box(N8)), (N8,))
        self.assertEqual(parts(PAIR, use("pair", N8, T)), (record(left=N8, right=T),))
        self.assertEqual(parts(PAIR, maybe(use("plain"))), (use("plain"),))

    def test_a_declaration_that_is_a_use(self):
        book = (("a", (), use("b")), ("b", (), T))
        self.assertEqual(parts(book, use("a")), (use("b"),))
        self.assertEqual(parts(book, use("b")), (T,))


if __name__ == "__main__":
    unittest.main()
