"""Worths, their codes, their order, counts and ranks: B1, B2, B4, B5."""

import itertools
import random
import unittest

from packedforms.books import parts
from packedforms.needs import plainest
from packedforms.worths import (before, coded, count, decoded, deepness, misfit, ranked, sizeof, unranked)
from tests.things import (BOXES, HEIGHT_11, HIGH_BOOK, I8, LIST, LIST8, N8, NONE, NO_THINGS, PARTS_1000, SPAN_400, T,
                          THIRTEEN, TWELVE, WRONG_BOOK, box, deep, hole, maybe, nat, record, refusal, row, use,
                          variant, whole)

CHAIN = use("chain")


def chain(boxes):
    """A worth of CHAIN with so many boxes within one another."""
    return deep(boxes)


def numbers_of(kind):
    bits = kind[1]
    return range(2 ** bits) if kind[0] == "nat" else range(-2 ** (bits - 1), 2 ** (bits - 1))


def seen(book, kind):
    boxes = 0
    while kind[0] in ("use", "box"):
        boxes += kind[0] == "box"
        kind = parts(book, kind)[0]
    return kind, boxes


def fits(kind, thing):
    if kind[0] in ("nat", "int"):
        return type(thing) is int and thing in numbers_of(kind)
    if kind[0] == "truth":
        return type(thing) is bool
    if kind[0] == "record":
        return type(thing) is tuple and len(thing) == len(kind[1])
    if kind[0] == "row":
        return type(thing) is tuple and len(thing) == kind[1]
    if kind[0] == "maybe":
        return type(thing) is tuple and len(thing) in (0, 1)
    return type(thing) is tuple and len(thing) == 2 and type(thing[0]) is str and thing[0] in dict(kind[1])


def walk(book, kind, thing, path=(), around=0):
    """Rows (path, boxes around, whether the form fits) in preorder, a part that doesn't fit ending its branch."""
    kind, boxes = seen(book, kind)
    around += boxes
    right = fits(kind, thing)
    yield path, around, right
    if not right:
        return
    if kind[0] == "record":
        for (name, inner), each in zip(kind[1], thing):
            yield from walk(book, inner, each, path + (("field", name),), around)
    elif kind[0] == "row":
        for at, each in enumerate(thing):
            yield from walk(book, kind[2], each, path + (("at", at),), around)
    elif kind[0] == "maybe" and thing:
        yield from walk(book, kind[1], thing[0], path + (("some",),), around)
    elif kind[0] == "variant":
        yield from walk(book, dict(kind[1])[thing[0]], thing[1], path + (("arm", thing[0]),), around)


def slow_misfit(book, kind, thing, boxes=12, most=1000):
    for number, (path, around, right) in enumerate(walk(book, kind, thing)):
        if number >= most or around > boxes or not right:
            return path
    return None


def chance_kind(dice, depth):
    word = dice.choice(["nat", "int", "truth", "list"] if depth == 0 else
                       ["nat", "truth", "record", "variant", "row", "maybe", "box", "list"])
    if word in ("nat", "int"):
        return (word, dice.choice((1, 2, 8, 64)))
    if word == "truth":
        return T
    if word == "list":
        return LIST8 if depth == 0 else use("list", chance_kind(dice, 0))
    if word in ("record", "variant"):
        names = "abcd"[:dice.randint(word == "variant", 3)]
        return (word, tuple([(name, chance_kind(dice, depth - 1)) for name in names]))
    if word == "row":
        return row(dice.randint(1, 3), chance_kind(dice, depth - 1))
    return (word, chance_kind(dice, depth - 1))


def chance_worth(dice, kind, left=8):
    kind, boxes = seen(LIST, kind)
    left -= boxes
    if kind[0] in ("nat", "int"):
        told = numbers_of(kind)
        return dice.choice((told[0], told[-1], dice.choice((told[0], told[-1]))))
    if kind[0] == "truth":
        return dice.random() < 0.5
    if kind[0] == "record":
        return tuple([chance_worth(dice, inner, left) for name, inner in kind[1]])
    if kind[0] == "row":
        return tuple([chance_worth(dice, kind[2], left) for each in range(kind[1])])
    if kind[0] == "maybe":
        return (chance_worth(dice, kind[1], left),) if dice.random() < 0.6 else ()
    arms = kind[1] if left > 0 else kind[1][:1]
    name, inner = dice.choice(arms)
    return (name, chance_worth(dice, inner, left))


def bent(dice, thing):
    """The thing with one thing in it changed."""
    if type(thing) is tuple and thing and dice.random() < 0.8:
        at = dice.randrange(len(thing))
        return thing[:at] + (bent(dice, thing[at]),) + thing[at + 1:]
    return dice.choice((None, True, 0, 1, -1, 256, 2 ** 64, "a", "cons", (), (0,), (0, 0), ("a", 0), ("nil", ())))


class MisfitTest(unittest.TestCase):
    def right(self, kind, worth, book=()):
        self.assertIsNone(misfit(book, kind, worth))

    def wrong(self, kind, worth, path=(), book=()):
        self.assertEqual(misfit(book, kind, worth), path)

    def test_numbers(self):
        for bits in (1, 2, 7, 8, 9, 63, 64):
            for word in ("nat", "int"):
                kind = (word, bits)
                told = numbers_of(kind)
                for number in (told[0], told[-1], 0):
                    self.right(kind, number)
                for number in (told[0] - 1, told[-1] + 1, 10 ** 400, -10 ** 400, True, False, None, "0", (), (0,)):
                    self.wrong(kind, number)

    def test_truths(self):
        self.right(T, True)
        self.right(T, False)
        for thing in (0, 1, None, "True", (), (True,)):
            self.wrong(T, thing)

    def test_records(self):
        kind = record(a=N8, b=T, c=NONE)
        self.right(kind, (1, True, ()))
        for thing in ((1, True), (1, True, (), ()), (), None, 0, "abc", [1, True, ()]):
            self.wrong(kind, thing)
        self.wrong(kind, (True, True, ()), (("field", "a"),))
        self.wrong(kind, (1, 1, ()), (("field", "b"),))
        self.wrong(kind, (1, True, (0,)), (("field", "c"),))
        self.wrong(kind, (1, 1, (0,)), (("field", "b"),))

    def test_variants(self):
        kind = variant(a=N8, b=NONE)
        self.right(kind, ("a", 255))
        self.right(kind, ("b", ()))
        for thing in (("c", 0), ("", 0), ("a",), ("a", 0, 0), (0, 0), (None, 0), (("a",), 0), (), "ab", None,
                      (True, 0)):
            self.wrong(kind, thing)
        self.wrong(kind, ("a", ()), (("arm", "a"),))
        self.wrong(kind, ("b", 0), (("arm", "b"),))
        self.wrong(kind, (deep(200), 0))

    def test_rows(self):
        kind = row(3, N8)
        self.right(kind, (0, 1, 255))
        for thing in ((0, 1), (0, 1, 2, 3), (), 0, "abc", None):
            self.wrong(kind, thing)
        self.wrong(kind, (0, 256, -1), (("at", 1),))
        self.wrong(kind, (0, 1, None), (("at", 2),))
        self.wrong(row(1, T), True)

    def test_maybes(self):
        self.right(maybe(N8), ())
        self.right(maybe(N8), (5,))
        for thing in ((5, 5), None, 5, "", False):
            self.wrong(maybe(N8), thing)
        self.wrong(maybe(N8), (256,), (("some",),))
        self.wrong(maybe(maybe(N8)), ((256,),), (("some",), ("some",)))

    def test_boxes_and_uses_are_seen_through(self):
        self.right(box(N8), 5)
        self.wrong(box(N8), (5,))
        self.right(LIST8, ("cons", (1, ("cons", (2, ("nil", ()))))), LIST)
        self.wrong(LIST8, ("cons", (1, ("cons", (256, ("nil", ()))))),
                   (("arm", "cons"), ("field", "tail"), ("arm", "cons"), ("field", "head")), LIST)
        self.wrong(LIST8, ("cons", (1, ("cons", (2, ("nul", ()))))),
                   (("arm", "cons"), ("field", "tail"), ("arm", "cons"), ("field", "tail")), LIST)

    def test_the_first_in_preorder(self):
        kind = record(a=record(b=N8, c=row(2, T)), d=T)
        self.wrong(kind, ((0, (True, 2)), 3), (("field", "a"), ("field", "c"), ("at", 1)))
        self.wrong(kind, ((0, (True,)), 3), (("field", "a"), ("field", "c")))
        self.wrong(kind, ((0, (True, True)), 3), (("field", "d"),))
        self.wrong(kind, (None, 3), (("field", "a"),))

    def test_boxes_around_a_part(self):
        self.right(CHAIN, chain(12), BOXES)
        self.wrong(CHAIN, chain(13), (("some",),) * 13, BOXES)
        self.wrong(CHAIN, chain(279), (("some",),) * 13, BOXES)
        self.right(TWELVE, True, BOXES)
        self.wrong(THIRTEEN, True, (), BOXES)
        self.wrong(record(a=N8, b=THIRTEEN), (0, True), (("field", "b"),), BOXES)
        self.wrong(record(a=N8, b=THIRTEEN), (-1, True), (("field", "a"),), BOXES)

    def test_boxes_handed_in(self):
        for boxes in range(13):
            self.assertIsNone(misfit(BOXES, CHAIN, chain(boxes), boxes=boxes))
            self.assertEqual(misfit(BOXES, CHAIN, chain(boxes + 1), boxes=boxes), (("some",),) * (boxes + 1))
        self.assertEqual(misfit((), box(T), True, boxes=0), ())
        self.assertIsNone(misfit((), box(T), True, boxes=1))
        self.assertEqual(misfit((), record(a=T, b=box(T)), (True, True), boxes=0), (("field", "b"),))

    def test_thousand_parts(self):
        worth = plainest((), PARTS_1000)
        self.right(PARTS_1000, worth)
        self.wrong(record(a=PARTS_1000), (worth,), (("field", "a"), ("at", 8), ("at", 9), ("at", 9)))
        self.wrong(record(a=T, b=PARTS_1000, c=T), (True, worth, 5), (("field", "b"), ("at", 8), ("at", 9), ("at", 8)))
        self.wrong(record(a=PARTS_1000, b=T), (worth, 5), (("field", "a"), ("at", 8), ("at", 9), ("at", 9)))

    def test_most_handed_in(self):
        kind = record(a=N8, b=maybe(T), c=variant(x=box(N8)))
        worth = (1, (True,), ("x", 5))
        paths = [(), (("field", "a"),), (("field", "b"),), (("field", "b"), ("some",)), (("field", "c"),),
                 (("field", "c"), ("arm", "x"))]
        for most in range(6):
            self.assertEqual(misfit((), kind, worth, most=most), paths[most])
        self.assertIsNone(misfit((), kind, worth, most=6))
        self.assertEqual(misfit((), T, True, most=0), ())
        self.assertEqual(misfit((), kind, worth, most=4, boxes=0), (("field", "c"),))
        self.assertEqual(misfit((), kind, worth, most=6, boxes=0), (("field", "c"), ("arm", "x")))

    def test_any_written_thing(self):
        for thing in NO_THINGS:
            for kind in (N8, T, NONE, row(2, T), maybe(N8), variant(a=T), box(T), record(a=N8)):
                self.assertEqual(misfit((), kind, thing), slow_misfit((), kind, thing))
        self.wrong(maybe(maybe(T)), deep(280), (("some",), ("some",)))

    def test_by_walking(self):
        dice = random.Random(7)
        for each in range(400):
            kind = chance_kind(dice, 3)
            worth = chance_worth(dice, kind)
            told = list(walk(LIST, kind, worth))
            self.assertIsNone(misfit(LIST, kind, worth))
            self.assertEqual(sizeof(LIST, kind, worth), len(told))
            self.assertEqual(deepness(LIST, kind, worth), max(around for path, around, right in told))
            for other in range(3):
                thing = bent(dice, worth)
                boxes, most = dice.randint(0, 12), dice.randint(0, 30)
                self.assertEqual(misfit(LIST, kind, thing), slow_misfit(LIST, kind, thing))
                self.assertEqual(misfit(LIST, kind, thing, boxes=boxes, most=most),
                                 slow_misfit(LIST, kind, thing, boxes, most))


class SizesTest(unittest.TestCase):
    def test_deepness(self):
        for boxes in range(13):
            self.assertEqual(deepness(BOXES, CHAIN, chain(boxes)), boxes)
        self.assertEqual(deepness((), maybe(box(T)), ()), 0)
        self.assertEqual(deepness((), maybe(box(T)), (True,)), 1)
        self.assertEqual(deepness((), record(a=box(T), b=box(box(T)), c=T), (True, True, True)), 2)
        self.assertEqual(deepness(BOXES, TWELVE, False), 12)

    def test_sizeof(self):
        self.assertEqual(sizeof((), N8, 3), 1)
        self.assertEqual(sizeof((), NONE, ()), 1)
        self.assertEqual(sizeof((), maybe(T), ()), 1)
        self.assertEqual(sizeof((), maybe(T), (True,)), 2)
        self.assertEqual(sizeof((), box(row(3, T)), (True, False, True)), 4)
        self.assertEqual(sizeof(LIST, LIST8, ("cons", (1, ("nil", ())))), 5)
        self.assertEqual(sizeof((), PARTS_1000, plainest((), PARTS_1000)), 1000)

    def test_misfits(self):
        for call in (sizeof, deepness):
            self.assertEqual(refusal(call, (), record(a=T), (1,)), ("Misfit", (("field", "a"),)))
            self.assertEqual(refusal(call, BOXES, CHAIN, chain(13)), ("Misfit", (("some",),) * 13))
            self.assertEqual(refusal(call, (), N8, deep(280)), ("Misfit", ()))


class RefusalsTest(unittest.TestCase):
    def test_book_and_kind_go_ahead(self):
        for call, rest in ((misfit, (None,)), (deepness, (None,)), (sizeof, (None,)), (before, (None, None)),
                           (count, ()), (ranked, (None,)), (unranked, (None,))):
            self.assertEqual(refusal(call, WRONG_BOOK, None, *rest), ("BadBook", (0, 0), "name"))
            self.assertEqual(refusal(call, (), nat(65), *rest), ("BadKind", (1,), "bits"))
            self.assertEqual(refusal(call, LIST, hole("a"), *rest), ("BadKind", (1,), "hole"))
            self.assertEqual(refusal(call, HIGH_BOOK, HEIGHT_11, *rest), ("TooMany", HEIGHT_11))
            self.assertEqual(refusal(call, (("a", (), use("a")),), use("a"), *rest), ("Endless", (use("a"),) * 2))
            self.assertEqual(refusal(call, (), maybe(SPAN_400), *rest), ("TooGreat", maybe(SPAN_400)))


class CodesTest(unittest.TestCase):
    def test_ends(self):
        for bits in (1, 8, 64):
            top = 2 ** bits
            for worth, code in ((0, 0), (top - 1, top - 1)):
                self.assertEqual(coded(nat(bits), worth), code)
                self.assertEqual(decoded(nat(bits), code), worth)
            for worth, code in ((0, 0), (top // 2 - 1, top // 2 - 1), (-top // 2, top // 2), (-1, top - 1)):
                self.assertEqual(coded(whole(bits), worth), code)
                self.assertEqual(decoded(whole(bits), code), worth)

    def test_truths(self):
        self.assertIs(decoded(T, 0), False)
        self.assertIs(decoded(T, 1), True)
        self.assertEqual(repr(coded(T, False)), "0")
        self.assertEqual(repr(coded(T, True)), "1")

    def test_all_of_few_bits(self):
        for kind in (nat(3), whole(3), nat(1), whole(1)):
            codes = [coded(kind, worth) for worth in numbers_of(kind)]
            self.assertEqual(sorted(codes), list(range(2 ** kind[1])))
            self.assertEqual([decoded(kind, code) for code in codes], list(numbers_of(kind)))

    def test_misfit(self):
        for kind, worth in ((N8, 256), (N8, -1), (N8, True), (I8, 128), (I8, -129), (T, 0), (T, 1), (T, None),
                            (N8, "0"), (I8, (0,)), (N8, deep(280)), (nat(64), 2 ** 64), (whole(64), 2 ** 63),
                            (whole(1), 1)):
            self.assertEqual(refusal(coded, kind, worth), ("Misfit", ()))

    def test_no_code(self):
        for kind, code in ((N8, 256), (N8, -1), (I8, 256), (I8, -1), (T, 2), (T, -1), (nat(64), 2 ** 64),
                           (whole(1), 2), (N8, None), (N8, "1"), (I8, (1,)), (N8, 10 ** 400)):
            self.assertEqual(refusal(decoded, kind, code), ("NoCode", code))
        for kind in (N8, I8, T):
            for code in (True, False):
                self.assertIs(refusal(decoded, kind, code)[1], code)

    def test_kinds(self):
        for call in (coded, decoded):
            for thing, place, why in ((None, (), "kind"), (nat(0), (1,), "bits"), (("nat",), (), "shape"),
                                      (use("a"), (1,), "unknown"), (hole("a"), (1,), "hole"),
                                      (maybe(None), (1,), "kind"), (deep(280), (), "kind"),
                                      (maybe(T, 8), (1,) * 8, "deep")):
                self.assertEqual(refusal(call, thing, None), ("BadKind", place, why))
            for kind in (NONE, record(a=N8), variant(a=T), row(2, T), maybe(T), box(N8)):
                self.assertEqual(refusal(call, kind, None), ("BadKind", (), "plain"))


def all_worths(book, kind):
    """All worths of a kind without boxes in their order."""
    kind = seen(book, kind)[0]
    if kind[0] in ("nat", "int"):
        return list(numbers_of(kind))
    if kind[0] == "truth":
        return [False, True]
    if kind[0] == "record":
        return list(itertools.product(*[all_worths(book, inner) for name, inner in kind[1]]))
    if kind[0] == "row":
        return list(itertools.product(all_worths(book, kind[2]), repeat=kind[1]))
    if kind[0] == "maybe":
        return [()] + [(each,) for each in all_worths(book, kind[1])]
    return [(name, each) for name, inner in kind[1] for each in all_worths(book, inner)]


NAMED = (("pair", ("a",), record(x=hole("a"), y=hole("a"))),)
SMALL = (nat(1), nat(3), whole(1), whole(3), T, NONE, maybe(T), maybe(maybe(NONE)), record(a=T, b=nat(2), c=whole(1)),
         variant(z=T, a=nat(2), m=NONE), row(3, T), row(2, variant(b=NONE, a=T)), row(1, nat(2)),
         record(b=variant(y=T, x=maybe(T)), a=row(2, T)), use("pair", nat(2)), maybe(use("pair", maybe(T))),
         variant(a=use("pair", T), b=row(2, nat(1))), record(a=NONE, b=NONE))


class OrderTest(unittest.TestCase):
    def test_by_listing_all(self):
        for kind in SMALL:
            worths = all_worths(NAMED, kind)
            self.assertEqual(count(NAMED, kind), len(worths))
            for rank, worth in enumerate(worths):
                self.assertEqual(ranked(NAMED, kind, worth), rank)
                self.assertEqual(repr(unranked(NAMED, kind, rank)), repr(worth))
            for (rank, one), (other_rank, other) in itertools.product(enumerate(worths), repeat=2):
                self.assertIs(before(NAMED, kind, one, other), rank < other_rank)

    def test_before_through_boxes(self):
        def told(*numbers):
            worth = ("nil", ())
            for number in numbers[::-1]:
                worth = ("cons", (number, worth))
            return worth

        self.assertIs(before(LIST, LIST8, told(), told(0)), True)
        self.assertIs(before(LIST, LIST8, told(0), told()), False)
        self.assertIs(before(LIST, LIST8, told(1, 2), told(1, 3)), True)
        self.assertIs(before(LIST, LIST8, told(2), told(1, 3)), False)
        self.assertIs(before(LIST, LIST8, told(1, 2), told(1, 2)), False)
        self.assertIs(before(LIST, LIST8, told(1, 2), told(1, 2, 0)), True)
        self.assertIs(before(BOXES, CHAIN, chain(11), chain(12)), True)
        self.assertIs(before(BOXES, CHAIN, chain(12), chain(11)), False)

    def test_the_first_unlike_part_counts(self):
        kind = record(a=record(x=N8, y=N8), b=N8)
        self.assertIs(before((), kind, ((0, 9), 9), ((1, 0), 0)), True)
        self.assertIs(before((), kind, ((0, 1), 0), ((0, 0), 9)), False)
        self.assertIs(before((), kind, ((0, 0), 5), ((0, 0), 6)), True)
        self.assertIs(before((), I8, -128, 127), True)
        self.assertIs(before((), I8, 0, -1), False)

    def test_before_refuses_the_one_then_the_other(self):
        kind = record(a=T, b=T)
        self.assertEqual(refusal(before, (), kind, (True, 1), (1, True)), ("Misfit", (("field", "b"),)))
        self.assertEqual(refusal(before, (), kind, (True, True), (1, True)), ("Misfit", (("field", "a"),)))
        self.assertEqual(refusal(before, BOXES, CHAIN, chain(12), chain(13)), ("Misfit", (("some",),) * 13))
        self.assertEqual(refusal(before, BOXES, THIRTEEN, True, False), ("Misfit", ()))


class CountTest(unittest.TestCase):
    def test_great_counts(self):
        kind = row(16, nat(64))
        self.assertEqual(count((), kind), 2 ** 1024)
        self.assertEqual(count((), record(a=kind, b=kind, c=whole(5))), 2 ** 2053)
        self.assertEqual(count((), maybe(kind)), 2 ** 1024 + 1)
        self.assertEqual(count((), variant(a=kind, b=T)), 2 ** 1024 + 2)
        self.assertEqual(count((), row(3, row(12, row(10, nat(64))))), 2 ** (64 * 360))

    def test_great_ranks(self):
        kind = record(a=row(16, nat(64)), b=maybe(whole(64)), c=variant(x=T, y=row(2, nat(64))))
        last = ((2 ** 64 - 1,) * 16, (2 ** 63 - 1,), ("y", (2 ** 64 - 1,) * 2))
        many = 2 ** 1024 * (2 ** 64 + 1) * (2 ** 128 + 2)
        self.assertEqual(count((), kind), many)
        self.assertEqual(ranked((), kind, last), many - 1)
        self.assertEqual(unranked((), kind, many - 1), last)
        self.assertEqual(unranked((), kind, 0), ((0,) * 16, (), ("x", False)))
        self.assertEqual(refusal(unranked, (), kind, many), ("NoRank", many))
        dice = random.Random(3)
        for each in range(50):
            rank = dice.randrange(many)
            worth = unranked((), kind, rank)
            self.assertIsNone(misfit((), kind, worth))
            self.assertEqual(ranked((), kind, worth), rank)

    def test_places_of_great_ranks(self):
        kind = record(a=nat(64), b=whole(64))
        self.assertEqual(ranked((), kind, (1, -2 ** 63)), 2 ** 64)
        self.assertEqual(ranked((), kind, (0, 0)), 2 ** 63)
        self.assertEqual(unranked((), kind, 2 ** 64 + 5), (1, 5 - 2 ** 63))

    def test_boxes(self):
        for book, kind in ((LIST, LIST8), ((), box(T)), ((), record(a=N8, b=maybe(row(2, box(N8))))),
                           (BOXES, use("one", T)), ((), variant(a=T, b=box(T)))):
            self.assertIsNone(count(book, kind))
            self.assertEqual(refusal(ranked, book, kind, None), ("Boxed", kind))
            self.assertEqual(refusal(unranked, book, kind, None), ("Boxed", kind))

    def test_misfit(self):
        self.assertEqual(refusal(ranked, (), record(a=T), (0,)), ("Misfit", (("field", "a"),)))
        self.assertEqual(refusal(ranked, (), N8, True), ("Misfit", ()))

    def test_no_rank(self):
        for thing in (True, False, None, "0", (0,), -1, 256, 10 ** 400, deep(280)):
            told = refusal(unranked, (), N8, thing)
            self.assertEqual(told[0], "NoRank")
            self.assertIs(told[1], thing)
        self.assertEqual(refusal(unranked, (), NONE, 1), ("NoRank", 1))
        self.assertEqual(unranked((), NONE, 0), ())


if __name__ == "__main__":
    unittest.main()
