"""Sizes, aligns, blocks and spare slots of entries: C1, C2, C3, C8."""

import unittest

from packedforms.plancheck import planfault
from packedforms.plans import MOST_SIZE, POINT, ROOT, align, block, size, spares
from packedforms.reaches import reach
from tests.planning import Planning, simple_plan
from tests.things import BOXES, LIST, LIST8, N8, N16, NONE, T, box, maybe, nat, record, row, use, variant, whole

F, Y = False, True


class PlansTest(unittest.TestCase):
    def told(self, plan, bits, multiple, slots, entry=0, book=()):
        """Looks at an entry of a plan that holds."""
        self.assertIsNone(planfault(book, plan))
        self.assertEqual(size(plan, entry), bits)
        self.assertEqual(align(plan, entry), multiple)
        self.assertEqual(spares(plan, entry), slots)
        self.assertEqual(block(plan, entry), max(8, -(-bits // 64) * 8))

    def test_constants(self):
        self.assertEqual((ROOT, MOST_SIZE, POINT), (0, 4096, 16))

    def test_slots_of_a_few_bits(self):
        for bits in range(1, 8):
            for kind in (nat(bits), whole(bits)):
                self.told(((kind, ("slot", bits)),), bits, 1, ())
                for wide in (8, 16, 32, 64):
                    self.told(((kind, ("slot", wide)),), wide, wide, ((0, wide, 2 ** bits),))

    def test_slots_of_many_bits(self):
        for bits in (8, 9, 15, 16, 17, 31, 32, 33, 63, 64):
            for wide in (8, 16, 32, 64):
                if wide >= bits:
                    slots = () if wide == bits else ((0, wide, 2 ** bits),)
                    self.told(((nat(bits), ("slot", wide)),), wide, wide, slots)
                    self.told(((whole(bits), ("slot", wide)),), wide, wide, slots)

    def test_slots_of_truths(self):
        self.told(((T, ("slot", 1)),), 1, 1, ())
        self.told(((T, ("slot", 8)),), 8, 8, ((0, 8, 2),))
        self.told(((T, ("slot", 64)),), 64, 64, ((0, 64, 2),))

    def test_fields(self):
        kind = record(a=nat(5), b=T, c=N16)
        rest = ((nat(5), ("slot", 8)), (T, ("slot", 8)), (N16, ("slot", 16)))
        rows = ((24, 1, F), (8, 2, F), (32, 3, F))
        self.told(((kind, ("fields", 50, rows)),) + rest, 50, 16, ((24, 8, 32), (8, 8, 2)))
        self.told(((kind, ("fields", 64, ((48, 1, F), (16, 2, Y), (32, 3, Y)))),) + rest, 64, 16,
                  ((48, 8, 32), (16, 16, 32768), (32, 16, 32768)))

    def test_fields_without_parts(self):
        self.told(((NONE, ("fields", 0, ())),), 0, 1, ())
        self.told(((NONE, ("fields", 100, ())),), 100, 1, ())

    def test_align_is_the_greatest_of_the_parts(self):
        kind = record(a=T, b=nat(3))
        rest = ((T, ("slot", 1)), (nat(3), ("slot", 3)))
        self.told(((kind, ("fields", 4, ((3, 1, F), (0, 2, F)))),) + rest, 4, 1, ())
        self.told(((kind, ("fields", 32, ((3, 1, F), (16, 2, Y)))),) + rest, 32, 16, ((16, 16, 32768),))
        rest = ((T, ("slot", 32)), (nat(3), ("slot", 3)))
        self.told(((kind, ("fields", 64, ((32, 1, F), (16, 2, Y)))),) + rest, 64, 32, ((32, 32, 2), (16, 16, 32768)))

    def test_runs(self):
        self.told(((row(3, nat(5)), ("run", 8, 1)), (nat(5), ("slot", 5))), 21, 1, ())
        self.told(((row(3, nat(5)), ("run", 5, 1)), (nat(5), ("slot", 5))), 15, 1, ())
        self.told(((row(3, T), ("run", 24, 1)), (T, ("slot", 8))), 56, 8, ((0, 8, 2), (24, 8, 2), (48, 8, 2)))
        self.told(((row(1, T), ("run", 4096, 1)), (T, ("slot", 8))), 8, 8, ((0, 8, 2),))
        self.told(((row(16, NONE), ("run", 0, 1)), (NONE, ("fields", 0, ()))), 0, 1, ())

    def test_spares_go_thing_by_thing(self):
        kind = record(a=T, b=nat(2))
        plan = ((row(2, kind), ("run", 32, 1)), (kind, ("fields", 16, ((8, 2, F), (0, 3, F)))), (T, ("slot", 8)),
                (nat(2), ("slot", 8)))
        self.told(plan, 48, 8, ((8, 8, 2), (0, 8, 4), (40, 8, 2), (32, 8, 4)))

    def test_points_and_sames(self):
        plan = ((box(N8), ("point", 1)), (N8, ("slot", 16)))
        self.told(plan, 16, 16, ((0, 16, 32768),))
        self.told(plan, 16, 16, ((0, 16, 256),), 1)
        plan = ((use("one", T), ("same", 1)), (box(T), ("point", 2)), (T, ("slot", 64)))
        self.told(plan, 16, 16, ((0, 16, 32768),), 0, BOXES)
        book = (("flag", (), T),)
        self.told(((use("flag"), ("same", 1)), (T, ("slot", 64))), 64, 64, ((0, 64, 2),), 0, book)
        self.told(((use("flag"), ("same", 1)), (T, ("slot", 1))), 1, 1, (), 0, book)

    def test_picks_with_tags_of_their_own(self):
        kind = variant(a=T, b=nat(5))
        rest = ((T, ("slot", 1)), (nat(5), ("slot", 5)))

        def pick(bits, at, wide, codes=(0, 1), far=(F, F)):
            arms = ((codes[0], 16, 1, far[0]), (codes[1], 32, 2, far[1]))
            return ((kind, ("pick", bits, at, wide, -1, arms)),) + rest

        self.told(pick(40, 0, 1), 40, 1, ())
        self.told(pick(40, 3, 2), 40, 1, ((3, 2, 2),))
        self.told(pick(40, 3, 7, (9, 127)), 40, 1, ())
        self.told(pick(40, 3, 7, (126, 9)), 40, 1, ((3, 7, 127),))
        self.told(pick(40, 8, 8), 40, 8, ((8, 8, 2),))
        self.told(pick(48, 8, 1, (1, 0), (F, Y)), 48, 16, ())
        self.told(pick(48, 8, 8, (1, 0), (Y, Y)), 48, 16, ((8, 8, 2),))

    def test_payloads_are_no_spare_slots(self):
        plan = ((variant(a=T), ("pick", 8, 0, 0, -1, ((0, 0, 1, F),))), (T, ("slot", 8)))
        self.told(plan, 8, 8, ())
        plan = ((variant(a=T), ("pick", 16, 0, 0, -1, ((0, 0, 1, Y),))), (T, ("slot", 8)))
        self.told(plan, 16, 16, ())
        plan = ((variant(a=T), ("pick", 9, 8, 1, -1, ((0, 0, 1, F),))), (T, ("slot", 8)))
        self.told(plan, 9, 8, ((8, 1, 1),))

    def test_maybes(self):
        plan = ((maybe(T), ("pick", 2, 0, 1, -1, ((0, 0, -1, F), (1, 1, 1, F)))), (T, ("slot", 1)))
        self.told(plan, 2, 1, ())
        plan = ((maybe(T), ("pick", 24, 0, 8, -1, ((0, 24, -1, F), (255, 8, 1, F)))), (T, ("slot", 1)))
        self.told(plan, 24, 8, ())

    def test_picks_with_a_host(self):
        plan = ((maybe(T), ("pick", 8, 0, 8, 1, ((2, 0, -1, F), (-1, 0, 1, F)))), (T, ("slot", 8)))
        self.told(plan, 8, 8, ((0, 8, 3),))
        plan = ((maybe(T), ("pick", 8, 0, 8, 1, ((255, 0, -1, F), (-1, 0, 1, F)))), (T, ("slot", 8)))
        self.told(plan, 8, 8, ())
        plan = ((maybe(T), ("pick", 24, 16, 8, 1, ((2, 0, -1, F), (-1, 16, 1, F)))), (T, ("slot", 8)))
        self.told(plan, 24, 8, ((16, 8, 3),))
        plan = ((maybe(T), ("pick", 16, 0, 16, 1, ((32768, 0, -1, F), (-1, 0, 1, Y)))), (T, ("slot", 1)))
        self.told(plan, 16, 16, ((0, 16, 32769),))
        plan = ((maybe(nat(5)), ("pick", 64, 0, 64, 1, ((2 ** 64 - 1, 0, -1, F), (-1, 0, 1, F)))),
                (nat(5), ("slot", 64)))
        self.told(plan, 64, 64, ())

    def test_tags_in_tags_of_7_bits(self):
        inner = variant(a=nat(3), b=nat(4))
        plan = ((maybe(inner), ("pick", 12, 0, 7, 1, ((2, 0, -1, F), (-1, 0, 1, F)))),
                (inner, ("pick", 12, 0, 7, -1, ((0, 7, 2, F), (1, 8, 3, F)))), (nat(3), ("slot", 3)),
                (nat(4), ("slot", 4)))
        self.told(plan, 12, 1, ((0, 7, 3),))
        self.told(plan, 12, 1, ((0, 7, 2),), 1)

    def test_tags_in_tags_in_tags(self):
        kind = maybe(maybe(maybe(T)))
        plan = ((kind, ("pick", 8, 0, 8, 1, ((4, 0, -1, F), (-1, 0, 1, F)))),
                (kind[1], ("pick", 8, 0, 8, 1, ((3, 0, -1, F), (-1, 0, 2, F)))),
                (kind[1][1], ("pick", 8, 0, 8, 1, ((2, 0, -1, F), (-1, 0, 3, F)))), (T, ("slot", 8)))
        self.told(plan, 8, 8, ((0, 8, 5),))
        self.told(plan, 8, 8, ((0, 8, 4),), 1)

    def test_blocks(self):
        for bits, many in ((0, 8), (1, 8), (63, 8), (64, 8), (65, 16), (128, 16), (129, 24), (4095, 512), (4096, 512)):
            plan = ((NONE, ("fields", bits, ())),)
            self.assertIsNone(planfault((), plan))
            self.assertEqual(block(plan, 0), many)

    def test_simple_plans(self):
        for gap in (0, 1, 2):
            for wide in (None, 16, 32):
                for book, kind in ((LIST, record(a=LIST8, b=row(3, T), c=maybe(N16), d=box(T), e=NONE)),
                                   (BOXES, record(a=use("tree"), b=use("late"), c=row(2, maybe(whole(33)))))):
                    planning = Planning(book, kind, gap, wide)
                    plan = planning.plan()
                    self.assertIsNone(planfault(book, plan))
                    for entry, each in enumerate(reach(book, kind)):
                        self.assertEqual((size(plan, entry), align(plan, entry)), planning.of(each)[1:])
        self.assertEqual(spares(simple_plan((), record(a=T, b=maybe(T)), 0, 16), 0), ((0, 16, 2), (16, 8, 2)))


if __name__ == "__main__":
    unittest.main()
