"""The maker of plans: D3, D4, D5."""

import itertools
import random
import unittest

from packedforms.books import parts
from packedforms.images import imaged, worth_of
from packedforms.maker import FALLING, GREAT, LEAST, TOLD, planned
from packedforms.orders import bits_of, falling, fewest, placed
from packedforms.plancheck import planfault
from packedforms.plans import align, size
from packedforms.reaches import reach, spans
from packedforms.worths import misfit
from tests.things import (BOXES, HEIGHT_11, HIGH_BOOK, LIST, LIST8, N8, N16, NONE, NO_THINGS, SPAN_400, T, WRONG_BOOK,
                          box, crowd, hole, maybe, nat, record, refusal, row, use, variant, whole)
from tests.worlds import BOOK, random_kind, random_worth

F, Y = False, True
WISHES = [dict(order=order, spare=spare, bits=bits, great=great) for order in (LEAST, FALLING, TOLD)
          for spare in (Y, F) for bits in (Y, F) for great in (16, 128, 4096)]


def up(number, multiple):
    return -(-number // multiple) * multiple


class Model:
    """The maker once more, told by hand: of each kind (form, size, align, spare slots), reckoned by itself."""

    def __init__(self, book, kind, order=LEAST, spare=True, bits=True, great=128):
        self.book, self.order, self.spare, self.bits, self.great = book, order, spare, bits, great
        self.kinds = list(reach(book, kind))
        self.laid = {}

    def plan(self):
        return tuple((kind, self.of(kind)[0]) for kind in self.kinds)

    def of(self, kind):
        if kind not in self.laid:
            self.laid[kind] = getattr(self, "of_" + kind[0])(kind, [self.kinds.index(each)
                                                                   for each in parts(self.book, kind)])
        return self.laid[kind]

    def of_nat(self, kind, links, bits=None):
        bits = bits or kind[1]
        wide = bits if bits < 8 and self.bits else [each for each in (8, 16, 32, 64) if each >= bits][0]
        return ("slot", wide), wide, wide if wide >= 8 else 1, [(0, wide, 2 ** bits)] if wide > bits else []

    of_int = of_nat

    def of_truth(self, kind, links):
        return self.of_nat(kind, links, 1)

    def of_box(self, kind, links):
        return ("point", links[0]), 16, 16, [(0, 16, 32768)]

    def of_use(self, kind, links):
        return (("same", links[0]),) + self.of(self.kinds[links[0]])[1:]

    def of_row(self, kind, links):
        form, bits, multiple, slots = self.of(kind[2])
        stride = up(bits, multiple)
        slots = [(at + stride * k, wide, first) for k in range(kind[1]) for at, wide, first in slots]
        return ("run", stride, links[0]), stride * (kind[1] - 1) + bits, multiple, slots

    def of_record(self, kind, links):
        laid = [self.of(each) for name, each in kind[1]]
        pairs = tuple((bits, multiple) for form, bits, multiple, slots in laid)
        if self.order == TOLD:
            order = tuple(range(len(pairs)))
        elif self.order == LEAST and len(pairs) <= 5:
            order = min(itertools.permutations(range(len(pairs))), key=lambda each: bits_of(pairs, each))
        else:
            order = falling(pairs)
        places = placed(pairs, order)
        rows = tuple((at, entry, False) for at, entry in zip(places, links))
        slots = [(at + place, wide, first) for place, each in zip(places, laid) for at, wide, first in each[3]]
        bits = bits_of(pairs, order)
        return ("fields", bits, rows), bits, max([pair[1] for pair in pairs], default=1), slots

    def of_variant(self, kind, links):
        arms = [(-1, False, 0, 1, [])] if kind[0] == "maybe" else []
        for entry in links:
            form, bits, multiple, slots = self.of(self.kinds[entry])
            far = bits > self.great
            arms.append((entry, True, 16, 16, [(0, 16, 32768)]) if far else (entry, False, bits, multiple, slots))
        many = len(arms)
        wide = (many - 1).bit_length() if self.bits or many == 1 else 8
        step = 8 if wide == 8 else 1
        ways = [([up(wide, arm[3]) if arm[2] else 0 for arm in arms], (0, wide), -1, list(range(many)))]
        ways.append(([0] * many, (up(max(arm[2] for arm in arms), step), wide), -1, list(range(many))))
        for host in range(many) if self.spare and many > 1 else ():
            for at, room, first in arms[host][4]:
                if first + many - 2 < 2 ** room:
                    codes = list(range(first, first + many - 1))
                    codes.insert(host, -1)
                    places = [0 if k == host or arm[2] <= at else up(at + room, arm[3]) for k, arm in enumerate(arms)]
                    ways.append((places, (at, room), host, codes))
        best = None
        for places, tag, host, codes in ways:
            bits = max([place + arm[2] for place, arm in zip(places, arms)] + [sum(tag)])
            if best is None or bits < best[1]:
                rows = tuple((code, place, arm[0], arm[1]) for code, place, arm in zip(codes, places, arms))
                aligns = [arm[3] for arm in arms] + ([step] if host == -1 else [])
                first = max(codes) + 1
                slots = [tag + (first,)] if tag[1] and first < 2 ** tag[1] else []
                best = ("pick", bits) + tag + (host, rows), bits, max(aligns), slots
        return best

    of_maybe = of_variant


class MakerTest(unittest.TestCase):
    def made(self, kind, book=(), **wishes):
        plan = planned(book, kind, **wishes)
        self.assertIsNone(planfault(book, plan))
        self.assertEqual(tuple(each for each, form in plan), reach(book, kind))
        return plan

    def form(self, kind, form, book=(), **wishes):
        self.assertEqual(self.made(kind, book, **wishes)[0][1], form)

    def test_constants(self):
        self.assertEqual((LEAST, FALLING, TOLD, GREAT), ("least", "falling", "told", 128))

    def test_wishes_that_are_left_out(self):
        kind = record(a=maybe(T), b=N16, c=variant(x=row(16, N16), y=T), d=nat(3))
        self.assertEqual(planned((), kind), planned((), kind, order=LEAST, spare=True, bits=True, great=128))
        self.assertNotEqual(planned((), kind), planned((), kind, order=TOLD))
        self.assertNotEqual(planned((), kind), planned((), kind, bits=False))
        self.assertNotEqual(planned((), kind), planned((), kind, great=4096))

    def test_slots(self):
        for bits in range(1, 65):
            wide = [each for each in (8, 16, 32, 64) if each >= bits][0]
            for kind in (nat(bits), whole(bits)):
                self.form(kind, ("slot", bits if bits < 8 else wide))
                self.form(kind, ("slot", wide), bits=False)
        self.form(T, ("slot", 1))
        self.form(T, ("slot", 8), bits=False)

    def test_points_and_sames(self):
        self.form(box(T), ("point", 1))
        self.form(LIST8, ("same", 1), LIST)

    def test_records(self):
        kind = record(a=T, b=nat(64), c=T, d=N8)
        self.form(kind, ("fields", 144, ((0, 1, F), (64, 2, F), (128, 1, F), (136, 3, F))), order=TOLD)
        self.form(kind, ("fields", 74, ((72, 1, F), (0, 2, F), (73, 1, F), (64, 3, F))), order=FALLING)
        self.form(kind, ("fields", 74, ((72, 1, F), (0, 2, F), (73, 1, F), (64, 3, F))))
        self.form(NONE, ("fields", 0, ()))

    def test_records_that_falling_lays_longer(self):
        inner = record(x=nat(10), y=nat(4))
        kind = record(a=inner, b=N16, c=nat(4))
        self.form(kind, ("fields", 52, ((0, 1, F), (32, 4, F), (48, 3, F))), order=FALLING)
        self.form(kind, ("fields", 40, ((16, 1, F), (0, 4, F), (36, 3, F))))

    def test_records_of_five_fields_and_of_six(self):
        fields = [("a", record(x=nat(10), y=nat(4))), ("b", N16), ("c", nat(4)), ("d", nat(3)), ("e", T), ("f", nat(2))]
        for many in range(2, 7):
            kind = ("record", tuple(fields[:many]))
            least, fall = self.made(kind), self.made(kind, order=FALLING)
            pairs = tuple((size(least, entry), align(least, entry)) for at, entry, far in least[0][1][2])
            order = fewest(pairs)[1] if many <= 5 else falling(pairs)
            self.assertEqual(tuple(each[0] for each in least[0][1][2]), placed(pairs, order))
            self.assertEqual(tuple(each[0] for each in fall[0][1][2]), placed(pairs, falling(pairs)))
            self.assertEqual(size(least, 0) < size(fall, 0), many <= 5)

    def test_fields_without_bits(self):
        self.form(record(a=N8, b=NONE, c=N8), ("fields", 16, ((0, 1, F), (0, 2, F), (8, 1, F))))

    def test_no_field_is_far(self):
        plan = self.made(record(a=row(16, nat(64)), b=T), great=16)
        self.assertEqual([far for at, entry, far in plan[0][1][2]], [F, F])

    def test_rows(self):
        self.form(row(3, nat(5)), ("run", 5, 1))
        self.form(row(3, nat(5)), ("run", 8, 1), bits=False)
        inner = record(a=N16, b=T)
        plan = self.made(row(4, inner))
        self.assertEqual((size(plan, 1), plan[0][1], size(plan, 0)), (17, ("run", 32, 1), 113))
        self.form(row(16, NONE), ("run", 0, 1))
        self.form(row(1, inner), ("run", 32, 1))

    def test_tag_ahead(self):
        self.form(maybe(nat(5)), ("pick", 6, 0, 1, -1, ((0, 0, -1, F), (1, 1, 1, F))))
        self.form(variant(a=T, b=nat(3), c=NONE), ("pick", 5, 0, 2, -1, ((0, 2, 1, F), (1, 2, 2, F), (2, 0, 3, F))))
        self.form(variant(a=NONE, b=NONE), ("pick", 1, 0, 1, -1, ((0, 0, 1, F), (1, 0, 1, F))))
        self.form(maybe(T), ("pick", 16, 0, 8, -1, ((0, 0, -1, F), (1, 8, 1, F))), bits=False, spare=False)

    def test_tag_behind(self):
        self.form(maybe(N16), ("pick", 17, 16, 1, -1, ((0, 0, -1, F), (1, 0, 1, F))))
        self.form(variant(a=N8, b=N16, c=T), ("pick", 18, 16, 2, -1, ((0, 0, 1, F), (1, 0, 2, F), (2, 0, 3, F))))
        self.form(maybe(N16), ("pick", 24, 16, 8, -1, ((0, 0, -1, F), (1, 0, 1, F))), bits=False)

    def test_a_wide_tag_behind_lies_at_a_multiple_of_8(self):
        self.form(maybe(record(a=nat(64))), ("pick", 72, 64, 8, -1, ((0, 0, -1, F), (1, 0, 1, F))), bits=False)
        self.form(variant(a=NONE, b=maybe(NONE)), ("pick", 8, 0, 8, 1, ((2, 0, 1, F), (-1, 0, 2, F))), bits=False)

    def test_how_many_bits_tags_have(self):
        for many, wide in ((1, 0), (2, 1), (3, 2), (4, 2), (5, 3), (8, 3)):
            kind = ("variant", tuple((name, NONE) for name in "abcdefgh"[:many]))
            arms = tuple((code, 0, 1, F) for code in range(many))
            self.form(kind, ("pick", wide, 0, wide, -1, arms))
            wide = 8 if many > 1 else 0
            self.form(kind, ("pick", wide, 0, wide, -1, arms), bits=False)

    def test_one_arm_alone(self):
        self.form(variant(a=N16), ("pick", 16, 0, 0, -1, ((0, 0, 1, F),)))
        self.form(variant(a=T), ("pick", 8, 0, 0, -1, ((0, 0, 1, F),)), bits=False)
        self.form(variant(a=nat(33)), ("pick", 64, 0, 0, -1, ((0, 0, 1, F),)))
        self.form(variant(a=row(2, nat(64))), ("pick", 128, 0, 0, -1, ((0, 0, 1, F),)))
        self.form(variant(a=row(3, nat(64))), ("pick", 16, 0, 0, -1, ((0, 0, 1, Y),)))

    def test_tag_in_a_spare_slot(self):
        self.form(maybe(nat(9)), ("pick", 16, 0, 16, 1, ((512, 0, -1, F), (-1, 0, 1, F))))
        self.form(maybe(T), ("pick", 8, 0, 8, 1, ((2, 0, -1, F), (-1, 0, 1, F))), bits=False)
        self.form(maybe(box(T)), ("pick", 16, 0, 16, 1, ((32768, 0, -1, F), (-1, 0, 1, F))))
        self.form(variant(a=N8, b=row(2, nat(33)), c=T),
                  ("pick", 128, 0, 64, 1, ((2 ** 33, 64, 1, F), (-1, 0, 2, F), (2 ** 33 + 1, 64, 4, F))))

    def test_other_payloads_ahead_of_the_slot_and_behind_it(self):
        host = record(a=N16, b=nat(9))
        for kind, place in ((variant(h=host, x=N16), 0), (variant(h=host, x=nat(15)), 0), (variant(h=host, x=NONE), 0)):
            form = self.made(kind)[0][1]
            self.assertEqual(form[1:5], (32, 16, 16, 0))
            self.assertEqual(form[5][0][:2], (-1, 0))
            self.assertEqual(form[5][1][:2], (512, place))
        form = self.made(variant(h=record(a=nat(9), b=N8), x=N8))[0][1]
        self.assertEqual(form[1:5], (24, 0, 16, 0))
        self.assertEqual(form[5][1][:2], (512, 16))

    def test_without_spare(self):
        self.form(maybe(nat(9)), ("pick", 17, 16, 1, -1, ((0, 0, -1, F), (1, 0, 1, F))), spare=False)
        self.form(maybe(box(T)), ("pick", 17, 16, 1, -1, ((0, 0, -1, F), (1, 0, 1, F))), spare=False)

    def test_the_first_of_ways_that_are_alike(self):
        self.form(variant(a=nat(9), b=nat(9)), ("pick", 17, 16, 1, -1, ((0, 0, 1, F), (1, 0, 1, F))))
        self.form(variant(a=nat(3), b=nat(3)), ("pick", 4, 0, 1, -1, ((0, 1, 1, F), (1, 1, 1, F))))
        self.form(variant(a=nat(9), b=NONE, c=nat(9)),
                  ("pick", 18, 16, 2, -1, ((0, 0, 1, F), (1, 0, 2, F), (2, 0, 1, F))))
        form = self.made(variant(a=NONE, b=record(x=nat(9), y=nat(9)), c=NONE))[0][1]
        self.assertEqual(form[1:5], (32, 0, 16, 1))
        self.assertEqual([arm[0] for arm in form[5]], [512, -1, 513])
        form = self.made(variant(a=record(x=nat(9)), b=box(T), c=NONE, d=record(y=nat(9))), great=4096)[0][1]
        self.assertEqual(form[4], -1)
        two = variant(a=record(x=nat(9), y=N16), b=record(z=N16, w=nat(9)))
        form = self.made(two)[0][1]
        self.assertEqual(form[4], -1)

    def test_the_first_host_of_those_that_are_alike(self):
        kind = variant(a=record(x=N16, y=nat(9)), b=N16, c=record(p=N16, q=nat(10)))
        form = self.made(kind, order=TOLD)[0][1]
        model = Model((), kind, order=TOLD).plan()[0][1]
        self.assertEqual(form, model)

    def test_just_enough_patterns_and_one_too_few(self):
        """A slot of 7 bits in 8 that has 2 patterns left: enough for two other arms, not for three."""
        inner = variant(**{name: NONE for name in "abcdef"})
        plan = self.made(inner)
        self.assertEqual(plan[0][1][1:4], (3, 0, 3))
        three = ("variant", (("h", inner), ("x", NONE), ("y", NONE)))
        four = ("variant", (("h", inner), ("x", NONE), ("y", NONE), ("z", NONE)))
        self.form(three, ("pick", 3, 0, 3, 0, ((-1, 0, 1, F), (6, 0, 2, F), (7, 0, 2, F))))
        self.form(four, ("pick", 5, 0, 2, -1, ((0, 2, 1, F), (1, 0, 2, F), (2, 0, 2, F), (3, 0, 2, F))))

    def test_far_payloads(self):
        for great in (16, 32, 128):
            plan = self.made(maybe(row(great // 16, N16)), great=great)
            self.assertEqual(size(plan, 1), great)
            self.assertEqual(plan[0][1], ("pick", great + 1, great, 1, -1, ((0, 0, -1, F), (1, 0, 1, F))))
        great = row(16, row(4, nat(64)))
        self.assertEqual(refusal(planned, (), maybe(great), great=4096), ("TooWide", maybe(great), 4097))
        self.form(maybe(great), ("pick", 16, 0, 16, 1, ((32768, 0, -1, F), (-1, 0, 1, Y))), great=4095)
        spare = row(16, row(4, nat(63)))
        self.form(maybe(spare), ("pick", 4096, 0, 64, 1, ((2 ** 63, 0, -1, F), (-1, 0, 1, F))), great=4096)
        for great in (16, 32, 128):
            kind = record(a=row(great // 16, N16), b=T)
            plan = self.made(maybe(kind), great=great)
            self.assertEqual(size(plan, 1), great + 1)
            self.assertEqual(plan[0][1], ("pick", 16, 0, 16, 1, ((32768, 0, -1, F), (-1, 0, 1, Y))))
            plan = self.made(maybe(kind), great=great, spare=False)
            self.assertEqual(plan[0][1], ("pick", 17, 16, 1, -1, ((0, 0, -1, F), (1, 0, 1, Y))))

    def test_several_far_payloads(self):
        kind = variant(a=row(16, nat(64)), b=T, c=row(15, nat(64)))
        self.form(kind, ("pick", 18, 16, 2, -1, ((0, 0, 1, Y), (1, 0, 3, F), (2, 0, 4, Y))))
        self.form(kind, ("pick", 24, 16, 8, -1, ((0, 0, 1, Y), (1, 0, 3, F), (2, 0, 4, Y))), bits=False)

    def test_kinds_of_any_making(self):
        dice = random.Random(13)
        looked = 0
        picks = {"ahead": 0, "behind": 0, "host": 0, "far": 0}
        while looked < 250:
            kind = random_kind(dice)
            wishes = dice.choice(WISHES)
            if refusal(planned, BOOK, kind, **wishes) is not None:
                continue
            looked += 1
            plan = self.made(kind, BOOK, **wishes)
            self.assertEqual(plan, Model(BOOK, kind, **wishes).plan())
            self.assertEqual(planned(BOOK, kind, **wishes), plan)
            for each, form in plan:
                if form[0] == "pick":
                    way = "host" if form[4] != -1 else "behind" if form[2] > 0 else "ahead"
                    picks[way] += 1
                    picks["far"] += any(arm[3] for arm in form[5])
        self.assertGreater(min(picks.values()), 20, picks)

    def test_worths_go_there_and_back(self):
        dice = random.Random(14)
        for each in range(120):
            kind = random_kind(dice)
            wishes = dice.choice(WISHES)
            try:
                worth = random_worth(dice, BOOK, kind)
                plan = planned(BOOK, kind, **wishes)
            except ValueError:
                continue
            if misfit(BOOK, kind, worth) is None:
                self.assertEqual(worth_of(plan, imaged(BOOK, plan, worth)), worth)

    def test_each_wish_on_some_kinds(self):
        for book, kind in ((LIST, LIST8), (BOXES, use("tree")), ((), SPAN_400), crowd(3),
                           (LIST, record(a=LIST8, b=maybe(box(LIST8)), c=row(2, variant(a=T, b=whole(40)))))):
            for wishes in WISHES:
                self.assertEqual(self.made(kind, book, **wishes), Model(book, kind, **wishes).plan())


class RefusalsTest(unittest.TestCase):
    def test_as_spans(self):
        crowded = crowd(4)
        for book, kind in ((None, T), (WRONG_BOOK, T), ((), nat(65)), ((), hole("a")), ((), maybe(T, 8)), crowded,
                           ((("a", (), use("a")),), use("a")), (HIGH_BOOK, HEIGHT_11), ((), maybe(SPAN_400)),
                           (WRONG_BOOK, None)):
            told = refusal(spans, book, kind)
            self.assertIsNotNone(told)
            self.assertEqual(refusal(planned, book, kind), told)
        for thing in NO_THINGS:
            self.assertEqual(refusal(planned, (), thing), refusal(spans, (), thing))

    def test_spans_ahead_of_wide(self):
        kind = row(16, row(16, nat(64)))
        self.assertEqual(refusal(planned, (), record(a=kind, b=SPAN_400))[0], "TooGreat")

    def test_just_4096(self):
        kind = row(16, row(4, nat(64)))
        self.assertEqual(size(planned((), kind), 0), 4096)
        for more, bits in ((T, 4097), (N8, 4104), (NONE, 4096)):
            each = record(a=kind, b=more)
            told = None if bits == 4096 else ("TooWide", each, bits)
            self.assertEqual(refusal(planned, (), each), told)
        self.assertIsNone(refusal(planned, (), row(16, row(16, N16))))
        self.assertEqual(refusal(planned, (), row(16, row(16, nat(17)))), ("TooWide", row(16, row(16, nat(17))), 8192))

    def test_the_first_of_the_reach(self):
        inner = row(5, row(16, nat(64)))
        kind = record(a=T, b=inner, c=inner)
        self.assertEqual(refusal(planned, (), kind), ("TooWide", kind, 10241))
        self.assertEqual(refusal(planned, (), record(a=box(kind))), ("TooWide", kind, 10241))
        self.assertEqual(refusal(planned, (), record(a=box(T), b=box(inner), c=box(kind))), ("TooWide", inner, 5120))

    def test_far_payloads_that_are_too_wide(self):
        inner = row(5, row(16, nat(64)))
        for kind in (maybe(inner), variant(a=T, b=inner), record(a=variant(x=inner))):
            self.assertEqual(refusal(planned, (), kind), ("TooWide", inner, 5120))

    def test_bits_and_order_count(self):
        kind = record(**{name: row(16, row(8, nat(4))) for name in "abcdefgh"})
        self.assertEqual(refusal(planned, (), kind)[0], "TooGreat")
        kind = row(16, row(16, nat(3)))
        self.assertEqual(size(planned((), kind), 0), 768)
        self.assertEqual(size(planned((), kind, bits=False), 0), 2048)
        kind = row(16, row(5, record(a=nat(3), b=nat(32), c=nat(3))))
        self.assertEqual(refusal(planned, (), kind, order=TOLD), ("TooWide", kind, 96 * 80 - 96 + 67))
        self.assertEqual(refusal(planned, (), kind), ("TooWide", kind, 64 * 80 - 64 + 38))


if __name__ == "__main__":
    unittest.main()
