"""Whether a plan holds, and the first fault of one that doesn't: C1, C4."""

import itertools
import random
import unittest

from packedforms.plancheck import planfault
from packedforms.plans import size
from packedforms.reaches import reach
from packedforms.worths import coded, count, unranked
from tests.planning import changed, simple_plan, with_form
from tests.things import (BOXES, HEIGHT_11, HIGH_BOOK, LIST, LIST8, N8, N16, NONE, NO_THINGS, SPAN_400, T, WRONG_BOOK,
                          box, crowd, deep, hole, maybe, nat, record, row, use, variant, whole)

F, Y = False, True
GREAT = 10 ** 40

KIND = record(n=nat(5), t=T, w=N16)
PLAN = ((KIND, ("fields", 48, ((0, 1, F), (8, 2, F), (16, 3, F)))), (nat(5), ("slot", 8)), (T, ("slot", 8)),
        (N16, ("slot", 16)))

CHOICE = variant(a=nat(5), b=T)
PICK = ((CHOICE, ("pick", 24, 0, 8, -1, ((0, 8, 1, F), (1, 16, 2, F)))), (nat(5), ("slot", 8)), (T, ("slot", 8)))
HOSTED = ((CHOICE, ("pick", 16, 0, 8, 0, ((-1, 0, 1, F), (32, 8, 2, F)))), (nat(5), ("slot", 8)), (T, ("slot", 8)))

MAYBE = ((maybe(T), ("pick", 8, 0, 8, 1, ((2, 0, -1, F), (-1, 0, 1, F)))), (T, ("slot", 8)))


class PlanFaultTest(unittest.TestCase):
    def told(self, plan, entry, why, book=()):
        self.assertEqual(planfault(book, plan), (entry, why))

    def holds(self, plan, book=()):
        self.assertIsNone(planfault(book, plan))

    def test_plans_that_hold(self):
        for plan in (PLAN, PICK, HOSTED, MAYBE):
            self.holds(plan)

    def test_fields_in_any_order_with_gaps(self):
        for places in itertools.permutations((0, 16, 32)):
            rows = tuple([(at, entry, F) for at, entry in zip(places, (1, 2, 3))])
            self.holds(with_form(PLAN, 0, ("fields", 48, rows)))
            self.holds(with_form(PLAN, 0, ("fields", 4096, rows)))
        self.holds(with_form(PLAN, 0, ("fields", 4096, ((4088, 1, F), (1000, 2, F), (2048, 3, F)))))

    def test_far_parts(self):
        self.holds(with_form(PLAN, 0, ("fields", 48, ((0, 1, Y), (16, 2, Y), (32, 3, Y)))))
        self.holds(with_form(PICK, 0, ("pick", 32, 0, 8, -1, ((0, 16, 1, Y), (1, 8, 2, F)))))

    def test_tags_in_spare_slots(self):
        self.holds(with_form(HOSTED, 0, ("pick", 16, 8, 8, 0, ((-1, 8, 1, F), (255, 0, 2, F)))))
        kind = variant(a=box(T), b=T)
        self.holds(((kind, ("pick", 24, 0, 16, 0, ((-1, 0, 1, F), (32768, 16, 2, F)))), (box(T), ("point", 2)),
                    (T, ("slot", 8))))
        kind = variant(a=T, b=NONE, c=maybe(T))
        self.holds(((kind, ("pick", 64, 8, 8, 2, ((4, 0, 1, F), (3, 60, 2, F), (-1, 8, 3, F)))), (T, ("slot", 8)),
                    (NONE, ("fields", 0, ())), MAYBE[0]))

    def test_entries_that_nothing_names(self):
        self.holds(PLAN + ((row(2, T), ("run", 8, 2)), (NONE, ("fields", 7, ()))))
        told = simple_plan(LIST, LIST8)
        self.holds(told + ((row(2, LIST8), ("run", 64, 0)), (box(row(2, LIST8)), ("point", len(told)))), LIST)
        self.told(told + ((box(row(2, LIST8)), ("point", 0)),), len(told), "part", LIST)

    def test_simple_plans_hold(self):
        for book, kind in ((LIST, LIST8), (BOXES, use("tree")), (BOXES, use("chain")), ((), SPAN_400),
                           (LIST, record(a=LIST8, b=maybe(box(LIST8)), c=row(2, variant(a=T, b=whole(40)))))):
            plan = simple_plan(book, kind)
            self.assertEqual([entry[0] for entry in plan], list(reach(book, kind)))
            self.holds(plan, book)

    def test_book(self):
        for book in NO_THINGS + (WRONG_BOOK,):
            if book != ():
                self.told(PLAN, -1, "book", book)
                self.told(None, -1, "book", book)

    def test_plan(self):
        for thing in (None, True, 5, "plan", ()):
            self.told(thing, -1, "plan")
        self.told((None,) * 61, -1, "plan")
        self.told((None,) * 60, 0, "entry")

    def test_sixty_entries(self):
        numbers = [(word, bits) for word in ("nat", "int") for bits in range(1, 31)]
        rows = tuple([(kind, ("slot", 32)) for kind in numbers])
        self.assertEqual(len(rows), 60)
        self.holds(rows)
        self.told(rows + ((T, ("slot", 1)),), -1, "plan")
        book, kind = crowd(3)
        self.holds(simple_plan(book, kind), book)

    def test_entry(self):
        for thing in (None, 5, "ab", (), (T,), (T, ("slot", 1), 0), deep(280)):
            self.told((thing,), 0, "entry")
            self.told(PLAN + (thing,), 4, "entry")

    def test_kind(self):
        form = ("slot", 1)
        for kind in (None, True, "nat", (), nat(0), hole("a"), use("a"), maybe(T, 8), ("nat", True)):
            self.told(((kind, form),), 0, "kind")
            self.told(PLAN + ((kind, form),), 4, "kind")
        self.told(((HEIGHT_11, form),), 0, "kind", HIGH_BOOK)
        self.told(((T, form), (maybe(SPAN_400), form)), 1, "kind")
        self.told(((use("a"), form),), 0, "kind", (("a", (), use("a")),))
        book, kind = crowd(4)
        self.told(((kind, form),), 0, "kind", book)

    def test_twice(self):
        self.told(PLAN + ((T, ("slot", 1)),), 4, "twice")
        self.told(((T, ("slot", 8)), (T, ("slot", 8))), 1, "twice")
        self.told(((KIND, None), (T, None), (("record", tuple(list(KIND[1]))), None)), 2, "twice")

    def test_entries_one_by_one(self):
        self.told(((T, None), (None, None), None), 1, "kind")
        self.told(((T, None), None, (None, None)), 1, "entry")
        self.told(((T, None), (T, None), (None, None)), 1, "twice")
        self.told(((T, None), (T, None), None), 1, "twice")
        self.told(((T, None), (N8, None), (T, None)), 2, "twice")
        self.told(((T, None), (N8, None)), 0, "form")

    def wrong_forms(self, plan, wrong):
        for form in wrong + (None, True, 0, "", (), ("",), (None,), deep(280)):
            self.told(with_form(plan, 0, form), 0, "form")

    def wrong_numbers(self, plan, places, below):
        """Each number of the form of entry 0 at these places bent to what is no number from below on."""
        for place in places:
            for thing in (below - 1, -GREAT, True, False, None, "0", (0,)):
                self.told(with_form(plan, 0, changed(plan[0][1], place, thing)), 0, "form")

    def test_form_of_a_slot(self):
        plan = ((T, ("slot", 1)),)
        self.wrong_forms(plan, (("slot",), ("slot", 1, 1), ("slots", 1), ("same", 0), ("point", 0), (1, "slot"),
                                "slot"))
        self.wrong_numbers(plan, ((1,),), 0)
        for kind in (N8, whole(8)):
            self.told(((kind, ("same", 0)),), 0, "form")

    def test_form_of_fields(self):
        rows = PLAN[0][1][2]
        self.wrong_forms(PLAN, (("fields",), ("fields", 48), ("fields", 48, rows, 0), ("field", 48, rows),
                                ("fields", 48, rows[:2]), ("fields", 48, rows + rows[:1]), ("fields", 48, ()),
                                ("fields", 48, None), ("fields", rows, 48), ("slot", 48),
                                ("pick", 48, 0, 0, -1, ((0,) + rows[0], (0,) + rows[1], (0,) + rows[2]))))
        for other in (None, 0, (), (0, 1), (0, 1, F, F), "abc", (0, F, 1)):
            self.told(with_form(PLAN, 0, ("fields", 48, rows[:2] + (other,))), 0, "form")
        self.wrong_numbers(PLAN, ((1,), (2, 0, 0), (2, 2, 0), (2, 0, 1), (2, 1, 1)), 0)
        for thing in (0, 1, None, "False", ()):
            self.told(with_form(PLAN, 0, changed(PLAN[0][1], (2, 1, 2), thing)), 0, "form")
        self.told(((NONE, ("fields", 0, (rows[0],))), (T, ("slot", 1))), 0, "form")

    def test_form_of_a_run(self):
        plan = ((row(3, T), ("run", 8, 1)), (T, ("slot", 8)))
        self.wrong_forms(plan, (("run",), ("run", 8), ("run", 8, 1, 0), ("row", 8, 1), ("run", 8, (1,)), ("slot", 8)))
        self.wrong_numbers(plan, ((1,), (2,)), 0)

    def test_form_of_a_pick(self):
        arms = PICK[0][1][5]
        self.wrong_forms(PICK, (("pick",), ("pick", 24, 0, 8, -1), ("pick", 24, 0, 8, -1, arms, 0),
                                ("pick", 24, 0, 8, arms), ("pick", 24, 0, 8, -1, arms[:1]),
                                ("pick", 24, 0, 8, -1, arms + arms[:1]), ("pick", 24, 0, 8, -1, None),
                                ("fields", 24, (arms[0][1:], arms[1][1:]))))
        for other in (None, 0, (), (0, 8, 1), (0, 8, 1, F, F), (F, 8, 1, 0)):
            self.told(with_form(PICK, 0, changed(PICK[0][1], (5, 1), other)), 0, "form")
        self.wrong_numbers(PICK, ((1,), (2,), (3,), (5, 0, 1), (5, 1, 1)), 0)
        self.wrong_numbers(PICK, ((4,), (5, 0, 0), (5, 1, 0), (5, 0, 2), (5, 1, 2)), -1)
        for thing in (0, 1, None, ()):
            self.told(with_form(PICK, 0, changed(PICK[0][1], (5, 0, 3), thing)), 0, "form")

    def test_form_of_a_maybe(self):
        none, some = MAYBE[0][1][5]
        for arms in ((some,), (none, some, some), (none,), (), ((2, 0, 0, F), some), ((2, 0, 1, F), some),
                     ((2, 0, -1, Y), some), ((2, 0, -2, F), some), ((2, 0, -1, 0), some)):
            self.told(with_form(MAYBE, 0, ("pick", 8, 0, 8, 1, arms)), 0, "form")
        self.wrong_numbers(MAYBE, ((1,), (2,), (3,), (5, 0, 1), (5, 1, 1)), 0)
        self.wrong_numbers(MAYBE, ((4,), (5, 0, 0), (5, 1, 0), (5, 1, 2)), -1)

    def test_form_of_a_point_and_a_same(self):
        plan = ((box(T), ("point", 1)), (T, ("slot", 1)))
        self.wrong_forms(plan, (("point",), ("point", 1, 1), ("same", 1), ("slot", 16)))
        self.wrong_numbers(plan, ((1,),), 0)
        book = (("a", (), T),)
        plan = ((use("a"), ("same", 1)), (T, ("slot", 1)))
        self.holds(plan, book)
        for form in (("same",), ("same", 1, 1), ("point", 1), ("slot", 1), ("same", -1), ("same", Y), None):
            self.told(with_form(plan, 0, form), 0, "form", book)

    def test_part(self):
        for number in (0, 2, 3, 4, GREAT):
            self.told(with_form(PLAN, 0, changed(PLAN[0][1], (2, 0, 1), number)), 0, "part")
        for number in (-1, 0, 1, 3, GREAT):
            self.told(with_form(PICK, 0, changed(PICK[0][1], (5, 1, 2), number)), 0, "part")
        for number in (-1, 0, 2):
            self.told(with_form(MAYBE, 0, changed(MAYBE[0][1], (5, 1, 2), number)), 0, "part")
        self.told(((row(3, T), ("run", 8, 0)), (T, ("slot", 8))), 0, "part")
        self.told(((box(T), ("point", 0)), (T, ("slot", 8))), 0, "part")
        self.told(((use("a"), ("same", 0)), (T, ("slot", 8))), 0, "part", (("a", (), T),))

    def test_parts_without_an_entry(self):
        self.told(PLAN[:3], 0, "part")
        self.told(((box(T), ("point", 0)),), 0, "part")
        self.told(((variant(a=T), ("pick", 8, 0, 0, -1, ((0, 0, -1, F),))),), 0, "part")
        self.told(((maybe(T), ("pick", 8, 0, 8, -1, ((0, 0, -1, F), (1, 0, -1, F)))),), 0, "part")
        self.told(((T, ("slot", 1)), (row(2, N8), ("run", 8, 2))), 1, "part")

    def test_form_and_part_entry_by_entry(self):
        plan = ((row(3, T), ("run", 8, 0)), (T, None))
        self.told(plan, 0, "part")
        self.told(plan[::-1], 0, "form")
        self.told(((T, ("slot", 1)), (row(3, T), ("run", 8, 1)), (N8, None)), 1, "part")
        self.told(((T, ("slot", 0)), (row(3, T), ("run", 8, 1))), 1, "part")

    def test_host(self):
        for host in (2, 3, GREAT):
            self.told(with_form(PICK, 0, changed(PICK[0][1], (4,), host)), 0, "host")
        for host in (0, 1):
            self.told(with_form(PICK, 0, changed(PICK[0][1], (4,), host)), 0, "spare")
        one = ((variant(a=T), ("pick", 8, 0, 8, -1, ((0, 0, 1, F),))), (T, ("slot", 8)))
        for host in (0, 1):
            self.told(with_form(one, 0, changed(one[0][1], (4,), host)), 0, "host")
        self.told(with_form(MAYBE, 0, changed(MAYBE[0][1], (4,), 2)), 0, "host")
        self.told(with_form(MAYBE, 0, changed(MAYBE[0][1], (4,), 0)), 0, "spare")

    def test_wide_of_slots(self):
        for bits in range(1, 65):
            for wide in list(range(0, 70)) + [128, GREAT]:
                right = wide == bits < 8 or wide in (8, 16, 32, 64) and wide >= bits
                for kind in (nat(bits), whole(bits)) + ((T,) if bits == 1 else ()):
                    told = planfault((), ((kind, ("slot", wide)),))
                    self.assertEqual(told, None if right else (0, "wide"))

    def test_wide_of_tags(self):
        for wide in range(8):
            self.holds(((variant(a=T), ("pick", 9, 1, wide, -1, ((0, 0, 1, F),))), (T, ("slot", 1))))
        self.holds(((variant(a=T), ("pick", 16, 8, 8, -1, ((0, 0, 1, F),))), (T, ("slot", 1))))
        for wide in (9, 16, 64, GREAT):
            self.told(((variant(a=T), ("pick", 4096, 1, wide, -1, ((0, 0, 1, F),))), (T, ("slot", 1))), 0, "wide")

    def test_wide_of_tags_with_a_host(self):
        for wide in (8, 16, 32, 64):
            plan = ((maybe(T), ("pick", wide, 0, wide, 1, ((2, 0, -1, F), (-1, 0, 1, F)))), (T, ("slot", wide)))
            self.holds(plan)
        self.told(with_form(plan, 0, changed(plan[0][1], (3,), 63)), 0, "spare")
        for wide in (65, 128, GREAT):
            self.told(with_form(plan, 0, changed(plan[0][1], (3,), wide)), 0, "wide")

    def test_align(self):
        for place, at in (((2, 0, 0), 4), ((2, 1, 0), 9), ((2, 2, 0), 24), ((2, 2, 0), GREAT + 1)):
            self.told(with_form(PLAN, 0, changed(PLAN[0][1], place, at)), 0, "align")
        far = with_form(PLAN, 0, ("fields", 64, ((0, 1, Y), (16, 2, F), (32, 3, F))))
        self.holds(far)
        self.told(with_form(far, 0, changed(far[0][1], (2, 0, 0), 8)), 0, "align")
        few = ((record(a=nat(5)), ("fields", 9, ((4, 1, F),))), (nat(5), ("slot", 5)))
        for at in range(5):
            self.holds(with_form(few, 0, ("fields", 9, ((at, 1, F),))))

    def test_align_of_tags(self):
        kind = variant(a=NONE)

        def plan(at, wide):
            return ((kind, ("pick", 40, at, wide, -1, ((0, 0, 1, F),))), (NONE, ("fields", 0, ())))

        for at in range(20):
            for wide in range(8):
                self.holds(plan(at, wide))
            self.assertEqual(planfault((), plan(at, 8)), None if at % 8 == 0 else (0, "align"))

    def test_align_of_arms(self):
        self.told(with_form(PICK, 0, changed(PICK[0][1], (5, 0, 1), 9)), 0, "align")
        self.told(with_form(HOSTED, 0, changed(HOSTED[0][1], (5, 1, 1), 9)), 0, "align")
        plan = with_form(MAYBE, 0, ("pick", 24, 0, 8, -1, ((0, 0, -1, F), (1, 8, 1, F))))
        for at in (0, 1, 3, 24):
            self.holds(with_form(plan, 0, changed(plan[0][1], (5, 0, 1), at)))

    def test_align_of_runs(self):
        for wide, strides in ((8, (8, 16, 4096)), (16, (16, 32, 48)), (64, (64, 128))):
            for stride in strides:
                self.holds(((row(1, T), ("run", stride, 1)), (T, ("slot", wide))))
            self.told(((row(1, T), ("run", wide + 4, 1)), (T, ("slot", wide))), 0, "align")
        self.holds(((row(2, T), ("run", 3, 1)), (T, ("slot", 1))))
        plan = ((row(2, row(2, N16)), ("run", 32, 1)), (row(2, N16), ("run", 16, 2)), (N16, ("slot", 16)))
        self.holds(plan)
        self.told(with_form(plan, 0, ("run", 40, 1)), 0, "align")
        book = (("a", (), N16),)
        plan = ((row(2, use("a")), ("run", 16, 1)), (use("a"), ("same", 2)), (N16, ("slot", 16)))
        self.holds(plan, book)
        self.told(with_form(plan, 0, ("run", 24, 1)), 0, "align", book)

    def test_size_of_fields(self):
        form = ("fields", 32, PLAN[0][1][2])
        self.holds(with_form(PLAN, 0, form))
        for bits in (0, 31):
            self.told(with_form(PLAN, 0, changed(form, (1,), bits)), 0, "size")
        self.holds(with_form(PLAN, 0, changed(form, (1,), 4096)))
        for bits in (4097, GREAT):
            self.told(with_form(PLAN, 0, changed(form, (1,), bits)), 0, "size")
        self.told(with_form(PLAN, 0, changed(form, (2, 1, 0), 32)), 0, "size")
        self.told(with_form(PLAN, 0, changed(form, (2, 1, 0), 8 * GREAT)), 0, "size")
        self.told(with_form(PLAN, 0, changed(form, (2, 1), (32, 2, Y))), 0, "size")

    def test_size_and_parts_without_bits(self):
        plan = ((record(a=NONE), ("fields", 8, ((8, 1, F),))), (NONE, ("fields", 0, ())))
        self.holds(plan)
        self.told(with_form(plan, 0, ("fields", 8, ((9, 1, F),))), 0, "size")
        self.holds(with_form(MAYBE, 0, changed(MAYBE[0][1], (5, 0, 1), 8)))
        self.told(with_form(MAYBE, 0, changed(MAYBE[0][1], (5, 0, 1), 9)), 0, "size")
        plan = ((variant(a=NONE), ("pick", 8, 8, 0, -1, ((0, 0, 1, F),))), (NONE, ("fields", 0, ())))
        self.holds(plan)
        self.told(with_form(plan, 0, ("pick", 8, 9, 0, -1, ((0, 0, 1, F),))), 0, "size")

    def test_size_of_picks(self):
        self.told(with_form(PICK, 0, changed(PICK[0][1], (1,), 23)), 0, "size")
        self.told(with_form(PICK, 0, changed(PICK[0][1], (1,), 4097)), 0, "size")
        self.holds(with_form(PICK, 0, ("pick", 32, 24, 8, -1, PICK[0][1][5])))
        self.told(with_form(PICK, 0, ("pick", 31, 24, 8, -1, PICK[0][1][5])), 0, "size")
        self.told(with_form(HOSTED, 0, changed(HOSTED[0][1], (1,), 15)), 0, "size")
        self.told(with_form(HOSTED, 0, changed(HOSTED[0][1], (2,), 800)), 0, "spare")

    def test_size_of_runs(self):
        self.holds(((row(1, T), ("run", 4096, 1)), (T, ("slot", 8))))
        self.told(((row(1, T), ("run", 4104, 1)), (T, ("slot", 8))), 0, "size")
        self.told(((row(1, T), ("run", 8 * GREAT, 1)), (T, ("slot", 8))), 0, "size")
        self.told(((row(1, T), ("run", 0, 1)), (T, ("slot", 8))), 0, "size")
        self.told(((row(2, nat(5)), ("run", 4, 1)), (nat(5), ("slot", 5))), 0, "size")
        self.holds(((row(2, nat(5)), ("run", 5, 1)), (nat(5), ("slot", 5))))
        self.holds(((row(2, T), ("run", 4088, 1)), (T, ("slot", 8))))
        self.told(((row(2, T), ("run", 4096, 1)), (T, ("slot", 8))), 0, "size")

    def test_size_of_a_same(self):
        book = (("a", (), NONE),)
        self.holds(((use("a"), ("same", 1)), (NONE, ("fields", 4096, ()))), book)
        self.told(((use("a"), ("same", 1)), (NONE, ("fields", 4097, ()))), 0, "size", book)
        self.told(((box(NONE), ("point", 1)), (NONE, ("fields", 4097, ()))), 1, "size")

    def test_spare(self):
        for place, thing in (((2,), 8), ((2,), 1), ((3,), 7), ((3,), 0), ((5, 0, 1), 8)):
            self.told(with_form(HOSTED, 0, changed(HOSTED[0][1], place, thing)), 0, "spare")
        full = HOSTED[:1] + ((nat(5), ("slot", 5)), HOSTED[2])
        self.told(with_form(full, 0, ("pick", 16, 0, 5, 0, ((-1, 0, 1, F), (31, 8, 2, F)))), 0, "spare")

    def test_a_tag_without_bits_is_no_spare_slot(self):
        inner = (variant(a=T), ("pick", 8, 0, 0, -1, ((-1, 0, 2, F),)))
        outer = (maybe(variant(a=T)), ("pick", 8, 0, 0, 1, ((0, 0, -1, F), (-1, 0, 1, F))))
        self.told((outer, inner, (T, ("slot", 8))), 0, "spare")

    def test_picks_without_bits(self):
        rest = (NONE, ("fields", 0, ()))
        self.holds(((variant(a=NONE), ("pick", 0, 0, 0, -1, ((0, 0, 1, F),))), rest))
        self.told(((variant(a=NONE), ("pick", 0, 0, 1, -1, ((0, 0, 1, F),))), rest), 0, "size")
        self.told(((maybe(NONE), ("pick", 0, 0, 0, -1, ((0, 0, -1, F), (0, 0, 1, F)))), rest), 0, "code")

    def test_spare_slots_of_far_hosts(self):
        form = ("pick", 24, 0, 16, 0, ((-1, 0, 1, Y), (32768, 16, 2, F)))
        self.holds(with_form(HOSTED, 0, form))
        self.told(with_form(HOSTED, 0, changed(form, (3,), 8)), 0, "spare")
        self.told(with_form(HOSTED, 0, changed(form, (5, 1, 0), 32)), 0, "code")
        self.holds(with_form(HOSTED, 0, ("pick", 32, 16, 16, 0, ((-1, 16, 1, Y), (65535, 0, 2, F)))))

    def test_spare_slots_within_the_host(self):
        inner = record(x=N8, y=T)
        kind = variant(a=inner, b=N8)
        plan = ((kind, ("pick", 32, 16, 8, 0, ((-1, 8, 1, F), (2, 24, 2, F)))),
                (inner, ("fields", 16, ((0, 2, F), (8, 3, F)))), (N8, ("slot", 8)), (T, ("slot", 8)))
        self.holds(plan)
        self.told(with_form(plan, 0, changed(plan[0][1], (2,), 8)), 0, "spare")
        self.told(with_form(plan, 0, changed(plan[0][1], (2,), 24)), 0, "spare")
        things = row(3, T)
        plan = ((maybe(things), ("pick", 24, 16, 8, 1, ((200, 0, -1, F), (-1, 0, 1, F)))), (things, ("run", 8, 2)),
                (T, ("slot", 8)))
        self.holds(plan)
        self.holds(with_form(plan, 0, changed(plan[0][1], (2,), 8)))
        self.told(with_form(plan, 0, changed(plan[0][1], (2,), 4)), 0, "spare")

    def test_clear_of_fields(self):
        for places in ((0, 0, 16), (16, 8, 16), (24, 8, 16), (8, 8, 16), (0, 24, 16)):
            rows = tuple([(at, entry, F) for at, entry in zip(places, (1, 2, 3))])
            self.told(with_form(PLAN, 0, ("fields", 48, rows)), 0, "clear")
        self.told(with_form(PLAN, 0, ("fields", 48, ((8, 1, F), (0, 2, Y), (16, 3, F)))), 0, "clear")
        kind = record(a=nat(5), b=nat(3), c=nat(4))
        rest = ((nat(5), ("slot", 5)), (nat(3), ("slot", 3)), (nat(4), ("slot", 4)))
        for places in itertools.product(range(9), repeat=3):
            stretches = [set(range(at, at + wide)) for at, wide in zip(places, (5, 3, 4))]
            clear = sum(map(len, stretches)) == len(set().union(*stretches))
            form = ("fields", 14, tuple([(at, entry, F) for at, entry in zip(places, (1, 2, 3))]))
            self.assertEqual(planfault((), ((kind, form),) + rest), None if clear else (0, "clear"))

    def test_clear_without_bits(self):
        plan = ((record(a=N8, b=NONE), ("fields", 8, ((0, 1, F), (4, 2, F)))), (N8, ("slot", 8)),
                (NONE, ("fields", 0, ())))
        self.holds(plan)
        plan = ((variant(a=N8), ("pick", 8, 4, 0, -1, ((0, 0, 1, F),))), (N8, ("slot", 8)))
        self.holds(plan)
        self.told(with_form(plan, 0, ("pick", 8, 4, 1, -1, ((0, 0, 1, F),))), 0, "clear")
        plan = with_form(MAYBE, 0, ("pick", 16, 8, 8, -1, ((0, 12, -1, F), (1, 0, 1, F))))
        self.holds(plan)

    def test_clear_of_picks(self):
        form = PICK[0][1]
        self.holds(with_form(PICK, 0, changed(form, (5, 1, 1), 8)))
        self.told(with_form(PICK, 0, changed(form, (5, 0, 1), 0)), 0, "clear")
        self.told(with_form(PICK, 0, changed(form, (5, 1, 1), 0)), 0, "clear")
        self.told(with_form(PICK, 0, changed(form, (2,), 8)), 0, "clear")
        self.told(with_form(PICK, 0, changed(form, (2,), 16)), 0, "clear")
        self.told(with_form(PICK, 0, ("pick", 32, 0, 8, -1, ((0, 0, 1, Y), (1, 16, 2, F)))), 0, "clear")
        self.told(with_form(HOSTED, 0, changed(HOSTED[0][1], (5, 1, 1), 0)), 0, "clear")

    def test_code(self):
        form = PICK[0][1]
        for codes in ((0, 255), (255, 0), (3, 2)):
            self.holds(with_form(PICK, 0, changed(changed(form, (5, 0, 0), codes[0]), (5, 1, 0), codes[1])))
        for codes in ((0, 256), (256, 0), (-1, 0), (0, -1), (1, 1), (0, GREAT), (-1, -1)):
            self.told(with_form(PICK, 0, changed(changed(form, (5, 0, 0), codes[0]), (5, 1, 0), codes[1])), 0, "code")

    def test_code_and_bits(self):
        def plan(wide, *codes):
            arms = tuple([(code, 8, 1, F) for code in codes])
            kind = ("variant", tuple([(name, T) for name in "abcd"[:len(codes)]]))
            return ((kind, ("pick", 9, 0, wide, -1, arms)), (T, ("slot", 1)))

        self.holds(plan(0, 0))
        self.told(plan(0, 1), 0, "code")
        self.told(plan(0, -1), 0, "code")
        self.told(plan(0, 0, 0), 0, "code")
        self.holds(plan(1, 1, 0))
        self.told(plan(1, 1, 2), 0, "code")
        self.told(plan(1, 0, 1, 1), 0, "code")
        self.holds(plan(2, 3, 0, 1, 2))
        self.told(plan(2, 3, 0, 1, 3), 0, "code")

    def test_code_with_a_host(self):
        form = HOSTED[0][1]
        for code in (32, 33, 255):
            self.holds(with_form(HOSTED, 0, changed(form, (5, 1, 0), code)))
        for code in (31, 0, -1, 256, GREAT):
            self.told(with_form(HOSTED, 0, changed(form, (5, 1, 0), code)), 0, "code")
        for code in (0, 31, 33, 255):
            self.told(with_form(HOSTED, 0, changed(form, (5, 0, 0), code)), 0, "code")
        kind = variant(a=nat(5), b=T, c=NONE)
        rest = ((nat(5), ("slot", 8)), (T, ("slot", 8)), (NONE, ("fields", 0, ())))
        form = ("pick", 16, 0, 8, 0, ((-1, 0, 1, F), (32, 8, 2, F), (33, 0, 3, F)))
        self.holds(((kind, form),) + rest)
        self.told(((kind, changed(form, (5, 2, 0), 32)),) + rest, 0, "code")
        self.told(((kind, changed(form, (5, 2, 0), -1)),) + rest, 0, "code")

    def test_code_in_a_tag_of_another_pick(self):
        kind = maybe(maybe(T))
        inner = (maybe(T), ("pick", 8, 0, 8, 1, ((2, 0, -1, F), (-1, 0, 2, F))))
        for code in (3, 255):
            self.holds(((kind, ("pick", 8, 0, 8, 1, ((code, 0, -1, F), (-1, 0, 1, F)))), inner, (T, ("slot", 8))))
        for code in (2, 1, 256):
            self.told(((kind, ("pick", 8, 0, 8, 1, ((code, 0, -1, F), (-1, 0, 1, F)))), inner, (T, ("slot", 8))), 0,
                      "code")
        spent = (maybe(T), ("pick", 8, 0, 8, 1, ((255, 0, -1, F), (-1, 0, 2, F))))
        self.told(((kind, ("pick", 8, 0, 8, 1, ((255, 0, -1, F), (-1, 0, 1, F)))), spent, (T, ("slot", 8))), 0, "spare")

    def test_codes_of_dozens_of_figures_in_a_host(self):
        kind = maybe(maybe(T))
        inner = (maybe(T), ("pick", 8, 0, 8, 1, ((GREAT, 0, -1, F), (-1, 0, 2, F))))
        self.told(((kind, ("pick", 8, 0, 8, 1, ((255, 0, -1, F), (-1, 0, 1, F)))), inner, (T, ("slot", 8))), 0, "spare")
        self.told(((kind, ("pick", 16, 8, 8, -1, ((0, 0, -1, F), (1, 0, 1, F)))), inner, (T, ("slot", 8))), 1, "code")

    def test_word_by_word(self):
        """Two entries, each with one of the faults: the word that comes first is told, whichever entry has it."""
        one = variant(a=T)
        two = variant(a=T, b=T)
        bits = (T, ("slot", 8))
        arms = ((-1, 0, 2, F), (2, 8, 2, F))
        bent = {
            "host": ("pick", 16, 0, 8, 2, arms),
            "wide": ("pick", 96, 8, 65, 0, arms),
            "align": ("pick", 16, 0, 8, 0, ((-1, 0, 2, F), (2, 9, 2, F))),
            "size": ("pick", 15, 0, 8, 0, arms),
            "spare": ("pick", 16, 0, 7, 0, arms),
            "clear": ("pick", 16, 0, 8, 0, ((-1, 0, 2, F), (2, 0, 2, F))),
            "code": ("pick", 16, 0, 8, 0, ((-1, 0, 2, F), (1, 8, 2, F))),
        }
        other = variant(b=T, a=T)
        self.holds(((two, ("pick", 16, 0, 8, 0, arms)), (other, ("pick", 16, 0, 8, 0, arms)), bits))
        words = list(bent)
        for word in words:
            self.told(((two, bent[word]), (other, bent[word]), bits), 0, word)
        for early, late in itertools.combinations(words, 2):
            self.told(((two, bent[late]), (other, bent[early]), bits), 1, early)
            self.told(((two, bent[early]), (other, bent[late]), bits), 0, early)
        self.told(((two, bent["host"]), (other, bent["host"]), (T, ("slot", 3))), 0, "host")
        self.told(((two, bent["align"]), (one, ("pick", 8, 0, 0, -1, ((0, 0, 2, F),))), (T, ("slot", 3))), 2, "wide")

    def test_several_words_at_one_entry(self):
        """Faults added one by one from the last word on: the first word is told each time."""
        form = ("pick", 16, 0, 8, 0, ((-1, 0, 1, F), (2, 8, 1, F)))
        plan = ((variant(a=T, b=T), form), (T, ("slot", 8)))
        self.holds(plan)
        for place, thing, why in (((5, 1, 0), 1, "code"), ((5, 1, 1), 0, "clear"), ((2,), 1, "spare"),
                                  ((1,), 7, "size"), ((5, 1, 1), 1, "align"), ((3,), 65, "wide"), ((4,), 2, "host"),
                                  ((5, 1, 2), 0, "part"), ((5, 0, 3), 0, "form")):
            form = changed(form, place, thing)
            self.told(with_form(plan, 0, form), 0, why)


def pattern(plan, entry, worth):
    """The bits of a worth, where no part is far and there is no box."""
    kind, form = plan[entry]
    if form[0] == "slot":
        return coded(kind, worth)
    if form[0] == "fields":
        return sum(pattern(plan, inner, each) << at for (at, inner, far), each in zip(form[2], worth))
    if form[0] == "run":
        return sum(pattern(plan, form[2], each) << form[1] * at for at, each in enumerate(worth))
    if form[0] == "same":
        return pattern(plan, form[1], worth)
    if kind[0] == "maybe":
        arm, inner = (1, worth[0]) if worth else (0, None)
    else:
        arm, inner = [name for name, each in kind[1]].index(worth[0]), worth[1]
    code, at, entry, far = form[5][arm]
    told = 0 if entry == -1 else pattern(plan, entry, inner) << at
    return told if arm == form[4] else told | code << form[2]


class LetByTest(unittest.TestCase):
    """Whatever is let by works: no two worths have the same bits, none has a bit beyond the size."""

    KINDS = (record(a=nat(2), b=T, c=nat(2)), variant(a=nat(2), b=T, c=NONE), maybe(nat(3)), row(2, maybe(T)),
             maybe(variant(a=T, b=nat(2))), record(a=maybe(T), b=variant(x=T, y=maybe(T))))

    def bent(self, dice, plan):
        """The plan with some numbers of forms changed."""
        for each in range(dice.randint(1, 4)):
            entry = dice.randrange(len(plan))
            form = plan[entry][1]
            places = [(at,) for at, thing in enumerate(form) if type(thing) is int]
            for at, thing in enumerate(form):
                if type(thing) is tuple:
                    places += [(at, k, j) for k, row in enumerate(thing) for j in range(len(row) - 1)]
            place = dice.choice(places)
            number = form
            for at in place:
                number = number[at]
            other = dice.choice((number + 1, number - 1, number * 2, number // 2, 0, 1, 8, -1, dice.randint(0, 20)))
            plan = with_form(plan, entry, changed(form, place, other))
        return plan

    def test_no_two_worths_have_the_same_bits(self):
        dice = random.Random(11)
        let_by = 0
        for kind in self.KINDS:
            worths = [unranked((), kind, rank) for rank in range(count((), kind))]
            for each in range(600):
                plan = self.bent(dice, simple_plan((), kind, dice.randint(0, 2), dice.choice((None, 8, 16))))
                if planfault((), plan) is None:
                    let_by += 1
                    told = [pattern(plan, 0, worth) for worth in worths]
                    self.assertEqual(len(set(told)), len(worths), plan)
                    self.assertTrue(max(told) < 2 ** size(plan, 0), plan)
        self.assertGreater(let_by, 300)


if __name__ == "__main__":
    unittest.main()
