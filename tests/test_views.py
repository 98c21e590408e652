"""Spots and views: F4, F5, E4, and of E6 what it says of a view's writes."""

import random
import unittest

from packedforms.images import imaged, rows_of, weight
from packedforms.maker import planned
from packedforms.paths import meeting, part, path_end, replaced
from packedforms.plancheck import planfault
from packedforms.plans import size
from packedforms.store import Store
from packedforms.views import View, spot
from packedforms.worths import misfit
from tests.simulator import NoRoom, Simulator
from tests.test_images import FAR_BOOK, FAR_LINK, LIST_PLAN
from tests.test_paths import SOME, arm, at, field, random_path
from tests.test_store import NIL, numbers
from tests.things import (BOXES, LIST, LIST8, N8, N16, NONE, NO_THINGS, PARTS_1000, T, THIRTEEN, TWELVE, box, deep,
                          maybe,
                          nat, record, refusal, row, use, variant)
from tests.worlds import BOOK, random_world, random_worth

F, Y = False, True
TAIL = (arm("cons"), field("tail"))

# One of everything: a far field, a run, a pick with a far arm, a maybe with a host, a box of a box.
KIND = record(n=N8, f=record(x=T, y=N16), r=row(3, N8), v=variant(a=N16, b=row(2, nat(64))), m=maybe(T), d=box(box(N8)))
KINDS = (KIND, N8, record(x=T, y=N16), T, N16, row(3, N8), variant(a=N16, b=row(2, nat(64))), row(2, nat(64)), nat(64),
         maybe(T), box(box(N8)), box(N8))
PLAN = tuple(zip(KINDS, (
    ("fields", 192, ((8, 1, F), (16, 2, Y), (64, 5, F), (128, 6, F), (40, 9, F), (176, 10, F))),
    ("slot", 8), ("fields", 32, ((24, 3, F), (0, 4, F))), ("slot", 8), ("slot", 16), ("run", 16, 1),
    ("pick", 40, 32, 8, -1, ((9, 0, 4, F), (3, 16, 7, Y))), ("run", 64, 8), ("slot", 64),
    ("pick", 16, 8, 8, 1, ((2, 0, -1, F), (-1, 8, 3, F))), ("point", 11), ("point", 1))))
WORTH = (7, (Y, 300), (1, 2, 3), ("a", 5), (Y,), 99)


class SpotTest(unittest.TestCase):
    def told(self, plan, path, hops, place, entry):
        self.assertEqual(spot(plan, path), (hops, place, entry))

    def test_plan_holds(self):
        self.assertIsNone(planfault((), PLAN))

    def test_spots(self):
        self.told(PLAN, (), (), 0, 0)
        self.told(PLAN, (field("n"),), (), 8, 1)
        self.told(PLAN, (field("f"),), (16,), 0, 2)
        self.told(PLAN, (field("f"), field("x")), (16,), 24, 3)
        self.told(PLAN, (field("f"), field("y")), (16,), 0, 4)
        for number in range(3):
            self.told(PLAN, (field("r"), at(number)), (), 64 + 16 * number, 1)
        self.told(PLAN, (field("v"),), (), 128, 6)
        self.told(PLAN, (field("v"), arm("a")), (), 128, 4)
        self.told(PLAN, (field("v"), arm("b")), (144,), 0, 7)
        self.told(PLAN, (field("v"), arm("b"), at(1)), (144,), 64, 8)
        self.told(PLAN, (field("m"),), (), 40, 9)
        self.told(PLAN, (field("m"), SOME), (), 48, 3)
        self.told(PLAN, (field("d"),), (176, 0), 0, 1)

    def test_through_uses_and_boxes(self):
        self.told(LIST_PLAN, (), (), 0, 1)
        self.told(LIST_PLAN, (arm("nil"),), (), 0, 2)
        self.told(LIST_PLAN, (arm("cons"),), (), 16, 3)
        self.told(LIST_PLAN, (arm("cons"), field("head")), (), 16, 4)
        self.told(LIST_PLAN, TAIL, (32,), 0, 1)
        self.told(LIST_PLAN, TAIL + (arm("cons"), field("head")), (32,), 16, 4)
        self.told(LIST_PLAN, TAIL * 3, (32, 32, 32), 0, 1)
        self.told(FAR_LINK, (SOME,), (0,), 0, 2)
        self.told(FAR_LINK, (SOME, field("more")), (0, 16), 0, 1)
        self.told(FAR_LINK, (SOME, field("more"), SOME, field("n")), (0, 16, 0), 0, 3)

    def test_boxes_at_the_root(self):
        plan = planned(BOXES, TWELVE)
        self.told(plan, (), (0,) * 12, 0, [kind for kind, form in plan].index(T))

    def test_refusals(self):
        for plan, book, kind in ((PLAN, (), KIND), (LIST_PLAN, LIST, LIST8), (FAR_LINK, FAR_BOOK, use("link"))):
            for path in NO_THINGS + ((None,), (field("z"),), (field("n"), SOME), TAIL + (None,), (SOME,) * 13,
                                     (SOME,) * 5):
                self.assertEqual(refusal(spot, plan, path), refusal(path_end, book, kind, path))
        plan = planned(BOXES, THIRTEEN)
        self.assertEqual(refusal(spot, plan, ()), ("BadPath", 0))
        self.assertEqual(refusal(spot, planned(BOXES, row(2, THIRTEEN)), (at(0),)), ("BadPath", 1))

    def test_out_of_row(self):
        for number in (3, -1, 10 ** 400):
            self.assertEqual(refusal(spot, PLAN, (field("r"), at(number))), ("OutOfRow", 1))
        self.assertEqual(refusal(spot, PLAN, (field("r"), at(3), SOME)), ("BadPath", 2))
        plan = planned((), row(2, row(3, T)))
        self.assertEqual(refusal(spot, plan, (at(2), at(3))), ("OutOfRow", 0))
        self.assertEqual(refusal(spot, plan, (at(1), at(3))), ("OutOfRow", 1))

    def test_parts_lie_where_spots_tell(self):
        dice = random.Random(51)
        looked = 0
        while looked < 120:
            kind, plan = random_world(dice)
            worth = random_worth(dice, BOOK, kind)
            path, here = random_path(dice, BOOK, kind)
            if misfit(BOOK, kind, worth) is not None or refusal(part, BOOK, kind, worth, path) is not None:
                continue
            looked += 1
            hops, place, entry = spot(plan, path)
            self.assertEqual(plan[entry][0], here)
            image = imaged(BOOK, plan, worth)
            for hop in hops:
                points = [slot[1] for slot in rows_of(plan, image[0], image[1]) if slot[3] in ("box", "far")]
                image = image[2][points.index(hop)]
            due = imaged(BOOK, plan, part(BOOK, kind, worth, path), entry=entry)
            self.assertEqual(image[1] >> place & 2 ** size(plan, entry) - 1, due[1])

    def test_paths_that_are_apart_share_no_bit(self):
        dice = random.Random(53)
        looked = 0
        while looked < 120:
            kind, plan = random_world(dice)
            paths = [random_path(dice, BOOK, kind)[0] for each in range(2)]
            spots = [spot(plan, path) for path in paths]
            if meeting(BOOK, kind, *paths)[0] == "apart" and spots[0][0] == spots[1][0]:
                looked += 1
                one, other = [set(range(place, place + size(plan, entry))) for hops, place, entry in spots]
                self.assertEqual(one & other, set())


class ViewTest(unittest.TestCase):
    def setUp(self):
        self.store = Store((), PLAN)
        self.store.fill(WORTH)
        self.store.fill(WORTH[:3] + (("b", (8, 9)), (), 1))

    def view(self, path, handle=1):
        return View(self.store, handle, path)

    def test_values(self):
        path = (field("r"), at(1))
        view = self.view(path)
        self.assertEqual((view.handle, view.path), (1, path))
        for thing in NO_THINGS:
            self.assertIs(self.view((), thing).handle, thing)

    def test_bad_paths(self):
        for path in NO_THINGS + ((None,), (field("z"),), (field("n"), SOME), (field("v"), arm("c"))):
            if path != ():
                self.assertEqual(refusal(View, self.store, 1, path), refusal(path_end, (), KIND, path))
                self.assertEqual(refusal(View, self.store, None, path), refusal(path_end, (), KIND, path))

    def test_read(self):
        for path, worth in (((), WORTH), ((field("n"),), 7), ((field("f"),), (Y, 300)), ((field("f"), field("y")), 300),
                            ((field("r"),), (1, 2, 3)), ((field("r"), at(2)), 3), ((field("v"), arm("a")), 5),
                            ((field("m"), SOME), Y), ((field("d"),), 99)):
            self.assertEqual(self.view(path).read(), worth)
        self.assertEqual(self.view((field("v"), arm("b"), at(1)), 2).read(), 9)
        self.assertEqual(self.view((field("m"),), 2).read(), ())

    def test_where(self):
        for path, told in (((), (8, 0, 192)), ((field("n"),), (8, 8, 8)), ((field("f"),), (32, 0, 32)),
                           ((field("f"), field("x")), (32, 24, 8)), ((field("r"), at(2)), (8, 96, 8)),
                           ((field("v"),), (8, 128, 40)), ((field("v"), arm("a")), (8, 128, 16)),
                           ((field("m"), SOME), (8, 48, 8)), ((field("d"),), (48, 0, 8))):
            self.assertEqual(self.view(path).where(), told)
        self.assertEqual(self.view((field("v"), arm("b"), at(1)), 2).where(), (88, 64, 64))
        self.assertEqual([row[:2] for row in self.store.blocks()], [(8, 24), (32, 8), (40, 8), (48, 8), (56, 24),
                                                                    (80, 8),
                                                                   (88, 16), (104, 8), (112, 8)])
        self.store.free(1)
        self.store.together()
        self.assertEqual(self.view((field("v"), arm("b"), at(1)), 2).where(), (40, 64, 64))

    def test_no_handle(self):
        things = [thing for thing in NO_THINGS + (3, "1", (1,)) if thing is True or thing != 1]
        for thing in things:
            view = self.view((field("r"), at(7)), thing)
            for call in (view.read, view.where, lambda: view.write(None)):
                told = refusal(call)
                self.assertEqual(told, ("NoHandle", thing))
                self.assertIs(type(told[1]), type(thing))
        view = self.view(())
        self.store.free(1)
        self.assertEqual(refusal(view.read), ("NoHandle", 1))

    def test_out_of_row_and_wrong_arm(self):
        for path, told in (((field("r"), at(3)), ("OutOfRow", 1)), ((field("r"), at(-1)), ("OutOfRow", 1)),
                           ((field("v"), arm("b")), ("WrongArm", 1)), ((field("v"), arm("b"), at(9)), ("WrongArm", 1))):
            view = self.view(path)
            for call in (view.read, view.where, lambda: view.write(None)):
                self.assertEqual(refusal(call), told)
        view = self.view((field("m"), SOME), 2)
        self.assertEqual(refusal(view.read), ("WrongArm", 1))
        view = self.view((field("v"), arm("b"), at(9)), 2)
        self.assertEqual(refusal(view.write, None), ("OutOfRow", 2))

    def test_write(self):
        for path, worth in (((field("n"),), 0), ((field("f"), field("y")), 65535), ((field("f"),), (F, 1)),
                            ((field("r"), at(0)), 255), ((field("r"),), (9, 9, 9)), ((field("v"), arm("a")), 77),
                            ((field("v"),), ("b", (1, 2))), ((field("v"), arm("b"), at(0)), 2 ** 64 - 1),
                            ((field("v"),), ("a", 0)), ((field("m"), SOME), F), ((field("m"),), ()),
                            ((field("m"),), (Y,)),
                            ((field("d"),), 100), ((), WORTH)):
            before = self.store.worth(1)
            view = self.view(path)
            self.assertIsNone(view.write(worth))
            self.assertEqual(view.read(), worth)
            self.assertEqual(self.store.worth(1), replaced((), KIND, before, path, worth))
            self.assertEqual(self.store.worth(2), WORTH[:3] + (("b", (8, 9)), (), 1))

    def test_no_other_bit_changes(self):
        for path, worth in (((field("n"),), 0), ((field("r"), at(1)), 255), ((field("v"), arm("a")), 77),
                            ((field("f"), field("y")), 1), ((field("m"),), ()), ((field("d"),), 100)):
            before = self.store.told()
            view = self.view(path)
            address, place, bits = view.where()
            view.write(worth)
            after = self.store.told()
            changed = {8 * byte + bit for byte, (one, other) in enumerate(zip(before[1], after[1])) for bit in range(8)
                       if (one ^ other) >> bit & 1}
            self.assertTrue(changed)
            self.assertLessEqual(changed, set(range(8 * address + place, 8 * address + place + bits)))
            self.assertEqual((before[0], before[2]), (after[0], after[2]))

    def test_misfit(self):
        for path, worth in (((field("n"),), 256), ((field("n"),), Y), ((field("r"), at(1)), None),
                            ((field("r"),), (1, 2)),
                            ((field("r"),), (1, 2, -1)), ((field("v"),), ("c", 1)), ((field("v"), arm("a")), 65536),
                            ((), None), ((field("m"), SOME), 1), ((field("d"),), ())):
            before = self.store.told()
            told = refusal(self.view(path).write, worth)
            self.assertEqual(told, refusal(replaced, (), KIND, WORTH, path, worth))
            self.assertEqual(told[0], "Misfit")
            self.assertEqual(self.store.told(), before)

    def test_misfit_by_boxes_and_parts(self):
        store = Store(LIST, planned(LIST, LIST8))
        store.fill(numbers(*range(8)))
        view = View(store, 1, TAIL * 4)
        self.assertEqual(refusal(view.write, numbers(*range(9))), ("Misfit", TAIL * 13))
        view.write(numbers(*range(8)))
        self.assertEqual(store.worth(1), numbers(0, 1, 2, 3, *range(8)))
        kind = record(a=maybe(PARTS_1000), b=T)
        store = Store((), planned((), kind), room=2048)
        store.fill(((), Y))
        thing = (((0,) * 10,) * 10,) * 9
        self.assertEqual(refusal(View(store, 1, (field("a"),)).write, (thing,)),
                         ("Misfit", misfit((), kind, ((thing,), Y))))

    def test_a_write_is_one_deed(self):
        self.assertEqual(self.store.ends(), (2, 2))
        deeds = 2
        for path, worth, handle in (((field("n"),), 3, 1), ((field("n"),), 256, 1), ((field("n"),), 3, 9),
                                    ((field("r"), at(5)), 3, 1), ((field("v"), arm("b")), 3, 1), ((), deep(280), 1)):
            view = self.view(path, handle)
            refusal(view.write, worth)
            deeds += 1
            self.assertEqual(self.store.ends(), (deeds, deeds))
            refusal(view.read)
            refusal(view.where)
            view.further(())
            self.assertEqual((len(view), view == view, view.apart(view)), (len(path), True, False))
            self.assertEqual(self.store.ends(), (deeds, deeds))

    def test_a_view_stands_while_the_store_changes(self):
        view = self.view((field("v"), arm("b"), at(0)), 2)
        self.assertEqual(view.read(), 8)
        self.store.free(1)
        self.assertEqual((view.read(), view.where()), (8, (88, 0, 64)))
        self.store.together()
        self.assertEqual((view.read(), view.where()), (8, (40, 0, 64)))
        self.store.fill(WORTH)
        self.view((field("n"),), 2).write(200)
        self.assertEqual(view.read(), 8)
        self.view((field("v"),), 2).write(("a", 4))
        self.assertEqual(refusal(view.read), ("WrongArm", 1))
        self.assertEqual(refusal(view.write, 5), ("WrongArm", 1))
        self.view((field("v"),), 2).write(("b", (6, 7)))
        self.assertEqual(view.read(), 6)
        self.view((), 2).write(WORTH)
        self.assertEqual(refusal(view.where), ("WrongArm", 1))
        self.store.free(2)
        self.assertEqual(refusal(view.read), ("NoHandle", 2))

    def test_further(self):
        view = self.view((field("r"),))
        further = view.further((at(1),))
        self.assertIsInstance(further, View)
        self.assertEqual((further.handle, further.path, further.read()), (1, (field("r"), at(1)), 2))
        self.assertEqual(view.path, (field("r"),))
        further.write(44)
        self.assertEqual(view.read(), (1, 44, 3))
        self.assertEqual(self.view(()).further((field("f"), field("y"))).read(), 300)
        self.assertTrue(view.further(()) == view)
        self.assertEqual(refusal(view.further, (field("x"),)), ("BadPath", 1))
        self.assertEqual(refusal(view.further, (at(0), at(0))), ("BadPath", 2))
        chain = Store(BOOK, planned(BOOK, use("chain")))
        self.assertEqual(refusal(View(chain, 1, (SOME,) * 6).further, (SOME,) * 7), ("BadPath", -1))

    def test_a_view_of_another_store(self):
        other = Store((), PLAN)
        other.fill(WORTH)
        view = self.view((field("n"),))
        View(other, 1, (field("n"),)).write(50)
        self.assertEqual((view.read(), other.worth(1)[0]), (7, 50))

    def test_apart(self):
        paths = ((), (field("r"),), (field("r"), at(0)), (field("r"), at(1)), (field("n"),), (field("v"), arm("a")),
                 (field("v"), arm("b")))
        for one in paths:
            for other in paths:
                short = min(len(one), len(other))
                begins = one[:short] == other[:short]
                self.assertIs(self.view(one).apart(self.view(other)), not begins)
                self.assertIs(self.view(one).apart(self.view(other, 2)), True)
        view = self.view((field("r"),))
        self.assertIs(view.apart(view), False)
        strange = View(Store(LIST, LIST_PLAN), 1, (arm("cons"),))
        self.assertIs(view.apart(strange), True)
        self.assertIs(self.view(()).apart(strange), False)
        self.assertIs(self.view((), True).apart(self.view((), 1)), True)
        self.assertIs(self.view((), True).apart(self.view((), True)), False)

    def test_equal(self):
        view = self.view((field("r"), at(1)))
        self.assertTrue(view == self.view((field("r"), at(1))))
        for other in (self.view((field("r"), at(0))), self.view((field("r"),)), self.view((field("r"), at(1)), 2), None,
                      1, (1, view.path), self.store, "1.r[1]"):
            self.assertIs(view == other, False)
            self.assertIs(view != other, True)
        other = Store((), PLAN)
        self.assertTrue(view == View(other, 1, (field("r"), at(1))))
        self.assertFalse(self.view((), True) == self.view((), 1))
        self.assertFalse(self.view((), False) == self.view((), 0))
        self.assertTrue(self.view((), (1, "a")) == self.view((), (1, "a")))
        self.assertFalse(self.store == view)

    def test_len_and_text(self):
        for path, text in (((), "1"), ((field("n"),), "1.n"), ((field("r"), at(1)), "1.r[1]"),
                           ((field("r"), at(-12)), "1.r[-12]"), ((field("v"), arm("a")), "1.v:a"),
                           ((field("m"), SOME), "1.m?"), ((field("v"), arm("b"), at(10)), "1.v:b[10]")):
            view = self.view(path)
            self.assertEqual((len(view), str(view)), (len(path), text))
        self.assertEqual(str(self.view((field("m"), SOME), 23)), "23.m?")


class WriteTest(unittest.TestCase):
    """Blocks behind a part: given back, taken, moved."""

    def listed(self, room, *rows):
        store = Store(LIST, LIST_PLAN, room=room)
        for heads in rows:
            store.fill(numbers(*heads))
        return store

    def test_blocks_are_given_back_first(self):
        store = self.listed(40, (1, 2, 3, 4))
        view = View(store, 1, TAIL)
        view.write(numbers(7, 8, 9))
        self.assertEqual(store.worth(1), numbers(1, 7, 8, 9))
        self.assertEqual([row[0] for row in store.blocks()], [8, 16, 24, 32, 40])
        view.write(numbers(5))
        self.assertEqual([row[0] for row in store.blocks()], [8, 16, 24])
        self.assertEqual(store.told()[1][32:], (0,) * 16)

    def test_full(self):
        store = self.listed(48, (1, 2), ())
        for heads, told in (((6, 7, 8), None), ((6, 7, 8, 9), ("Full", 32, 24)), ((6,) * 11, ("Full", 88, 24))):
            other = store.twin()
            before = other.told()
            self.assertEqual(refusal(View(other, 1, TAIL).write, numbers(*heads)), told)
            if told:
                self.assertEqual((other.told(), other.blocks()), (before, store.blocks()))
                self.assertEqual(other.ends(), (3, 3))
        self.assertEqual(refusal(View(store, 1, ()).write, numbers(*range(12))), ("Full", 96, 32))
        self.assertEqual(refusal(View(store, 1, ()).write, numbers(*range(13))), ("Misfit", TAIL * 13))
        self.assertEqual(refusal(View(store, 2, ()).write, numbers(*range(3))), ("Full", 24, 16))

    def test_taken_by_first_fit(self):
        store = self.listed(64, (1,), (2,), (3,))
        store.free(1)
        View(store, 2, TAIL).write(numbers(9))
        self.assertEqual(store.told()[2], ((2, 24), (3, 40)))
        # The tail's own block stays where it is; only what is behind it is taken anew.
        self.assertEqual(store.told()[1][8:40], (0,) * 16 + (1, 0, 2, 0, 32, 0, 0, 0, 1, 0, 9, 0, 8, 0, 0, 0))
        self.assertEqual([row[0] for row in store.blocks()], [8, 24, 32, 40, 48])

    def test_a_part_without_points_moves_nothing(self):
        store = self.listed(64, (1,), (2,))
        store.free(1)
        View(store, 2, (arm("cons"), field("head"))).write(9)
        self.assertEqual([row[0] for row in store.blocks()], [24, 32])
        View(store, 2, TAIL).write(NIL)
        self.assertEqual([row[0] for row in store.blocks()], [24, 32])

    def gappy(self):
        """Gaps of 8 and 16 bytes, none of 24."""
        kind = variant(small=NONE, wide=box(row(3, nat(64))), two=record(a=box(T), b=box(T)))
        store = Store((), planned((), kind), room=64)
        for each in range(8):
            store.fill(("small", ()))
        for handle in (1, 4, 6, 7):
            store.free(handle)
        return store

    def test_a_write_that_moves_all_together(self):
        store = self.gappy()
        self.assertEqual(store.told()[2], ((2, 16), (3, 24), (5, 40), (8, 64)))
        view = View(store, 3, ())
        view.write(("wide", (1, 2, 3)))
        self.assertEqual(store.told()[2], ((2, 8), (3, 16), (5, 24), (8, 32)))
        self.assertEqual([row[:2] for row in store.blocks()], [(8, 8), (16, 8), (24, 8), (32, 8), (40, 24)])
        self.assertEqual(view.read(), ("wide", (1, 2, 3)))
        self.assertEqual(view.further((arm("wide"), at(2))).where(), (40, 128, 64))
        self.assertEqual(refusal(View(store, 2, ()).write, ("wide", (1, 2, 3))), ("Full", 24, 8))
        self.assertEqual(refusal(View(store, 2, ()).write, ("two", (Y, Y))), ("Full", 16, 8))
        view.write(("two", (Y, F)))
        self.assertEqual([store.worth(handle)[0] for handle in (2, 3, 5, 8)], ["small", "two", "small", "small"])
        self.assertEqual(view.read(), ("two", (Y, F)))

    def test_a_write_whose_old_points_lead_nowhere_while_all_is_moved(self):
        kind = record(a=box(T), b=variant(none=NONE, two=record(x=box(T), y=box(T)), wide=box(row(4, nat(64)))))
        plan = planned((), kind)
        store = Store((), plan, room=96)
        one = store.fill((Y, ("none", ())))
        two = store.fill((F, ("two", (Y, F))))
        three = store.fill((Y, ("none", ())))
        store.free(one)
        self.assertEqual([row[0] for row in store.blocks()], [24, 32, 40, 48, 56, 64])
        view = View(store, two, (field("b"),))
        before = store.twin()
        view.write(("wide", (1, 2, 3, 4)))
        self.assertEqual(store.worth(two), (F, ("wide", (1, 2, 3, 4))))
        self.assertEqual(store.worth(three), (Y, ("none", ())))
        simulator = Simulator((), plan, 96)
        for worth in ((Y, ("none", ())), (F, ("two", (Y, F))), (Y, ("none", ()))):
            simulator.fill(worth)
        simulator.free(one)
        self.assertEqual(before.told(), simulator.told())
        simulator.write(two, (field("b"),), 0, (F, ("wide", (1, 2, 3, 4))))
        self.assertEqual(store.told(), simulator.told())

    def test_far_parts(self):
        store = Store(FAR_BOOK, FAR_LINK, room=64)
        store.fill(())
        view = View(store, 1, ())
        view.write(((5, ()),))
        self.assertEqual([row[1:] for row in store.blocks()], [(8, 0), (8, 2), (8, 0)])
        inner = view.further((SOME, field("more")))
        inner.write(((6, ((7, ()),)),))
        self.assertEqual(store.worth(1), ((5, ((6, ((7, ()),)),)),))
        self.assertEqual(inner.further((SOME, field("n"))).read(), 6)
        inner.write(())
        self.assertEqual(store.used(), 24)
        self.assertEqual(refusal(inner.write, ((1, ((2, ((3, ((4, ()),)),)),)),)), ("Full", 64, 40))

    def history(self, dice, kind, plan, room, deeds):
        """Fills, frees, moves and writes beside a store told by hand."""
        store, simulator, worths, told = Store(BOOK, plan, room=room), Simulator(BOOK, plan, room), {}, [0, 0, 0]
        for each in range(deeds):
            deed = dice.choices(("fill", "free", "together", "write"), (4, 2, 1, 10))[0]
            worth = random_worth(dice, BOOK, kind, dice.randint(0, 3))
            if deed == "fill" and misfit(BOOK, kind, worth) is None:
                try:
                    handle = simulator.fill(worth)
                    self.assertEqual(store.fill(worth), handle)
                    worths[handle] = worth
                except NoRoom as why:
                    self.assertEqual(refusal(store.fill, worth), ("Full",) + why.args)
            elif deed == "free" and worths:
                handle = dice.choice(sorted(worths))
                simulator.free(handle)
                store.free(handle)
                del worths[handle]
            elif deed == "together":
                self.assertEqual(store.together(), simulator.together())
            elif deed == "write" and worths:
                self.written(dice, kind, store, simulator, worths, told)
            self.assertEqual(store.told(), simulator.told())
            self.assertEqual(store.blocks(), simulator.blocks())
            for handle in worths:
                self.assertEqual(store.worth(handle), worths[handle])
        return told

    def widest(self, dice, kind, simulator, worth, path, others):
        """One of the others; often that which leaves the least room."""
        weights = {}
        for other in others:
            if refusal(replaced, BOOK, kind, worth, path, other) is None:
                whole = replaced(BOOK, kind, worth, path, other)
                more = weight(simulator.plan, imaged(BOOK, simulator.plan, whole))
                more -= weight(simulator.plan, imaged(BOOK, simulator.plan, worth))
                if more <= simulator.room - simulator.used():
                    weights[more] = other
        return weights[max(weights)] if weights and dice.random() < 0.6 else others[0]

    def written(self, dice, kind, store, simulator, worths, told):
        handle = dice.choice(sorted(worths))
        path, here = random_path(dice, BOOK, kind, 4)
        try:
            others = [random_worth(dice, BOOK, here, dice.randint(0, 3)) for each in range(8)]
        except ValueError:
            return
        other = self.widest(dice, kind, simulator, worths[handle], path, others)
        view = View(store, handle, path)
        refused = refusal(replaced, BOOK, kind, worths[handle], path, other)
        if refused is not None:
            self.assertEqual(refusal(view.write, other), refused)
            return
        whole = replaced(BOOK, kind, worths[handle], path, other)
        before = simulator.told()[2]
        try:
            simulator.write(handle, path, len(spot(store.heap.plan, path)[0]), whole)
        except NoRoom as why:
            told[0] += 1
            self.assertEqual(refusal(view.write, other), ("Full",) + why.args)
            return
        told[1] += 1
        told[2] += before != simulator.told()[2]
        view.write(other)
        worths[handle] = whole
        self.assertEqual(view.read(), other)

    def test_histories(self):
        dice = random.Random(61)
        told = [0, 0, 0]
        worlds = [random_world(dice) + (dice.choice((64, 128, 256)), 12) for each in range(40)]
        lengths = record(n=N8, v=variant(two=box(row(2, nat(64))), five=box(row(5, nat(64))),
                                         nine=box(row(9, nat(64)))))
        for kind in (use("tree"), LIST8, use("chain")):
            for room in (64, 120):
                worlds.append((kind, planned(BOOK, kind), room, 25))
        for kind in (lengths, row(2, lengths[1][1][1]), box(row(2, lengths[1][1][1]))):
            for room in (120, 200, 304):
                worlds.append((kind, planned((), kind), room, 60))
        for kind, plan, room, deeds in worlds:
            told = [one + other for one, other in zip(told, self.history(dice, kind, plan, room, deeds))]
        self.assertGreater(told[0], 2)
        self.assertGreater(told[1], 150)
        self.assertGreater(told[2], 3)


if __name__ == "__main__":
    unittest.main()
