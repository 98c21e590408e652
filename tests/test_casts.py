"""Casts from plan to plan, stores laid anew, and old bytes read by a grown kind: I1, I6, and F5 of another root."""

import random
import unittest

from packedforms.casts import cast, read_grown, recast, regrown
from packedforms.growmaker import growth
from packedforms.growth import grown
from packedforms.images import imaged, imagefault, weight, worth_of
from packedforms.kinds import alike
from packedforms.machine import run
from packedforms.maker import planned
from packedforms.plancheck import planfault
from packedforms.sound import soundfault
from packedforms.store import Store
from packedforms.views import View
from packedforms.worths import misfit
from tests.growing import grown_pair
from tests.test_compiler import WISHES
from tests.test_growcheck import NEW, NUMBERS, OLD, PAPER, TRUTHS
from tests.test_images import FAR, FIELDS
from tests.test_paths import SOME, arm, at, field
from tests.test_store import NIL, numbers
from tests.test_views import KIND, PLAN, WORTH
from tests.things import (BOXES, LIST, LIST8, N8, N16, NONE, NO_THINGS, T, THIRTEEN, TWELVE, WRONG_BOOK, box, hole,
                          maybe, nat, record, refusal, row, use, variant)
from tests.worlds import BOOK, random_kind, random_world, random_worth, wild_plan

TAIL = (arm("cons"), field("tail"))
# A list that has grown: wider heads, one more field, the arms turned round, an arm more.
CELL = record(tail=box(use("list", hole("a"))), mark=T, head=hole("a"))
NEW_BOOK = (("list", ("a",), variant(cons=CELL, both=NONE, nil=NONE)),)
NEW_LIST = use("list", N16)
LIST_PAPER = growth(LIST, LIST8, NEW_BOOK, NEW_LIST)


def longer(*heads):
    """What a list of these grows to."""
    worth = ("nil", ())
    for head in heads[::-1]:
        worth = ("cons", (worth, False, head))
    return worth


class CastTest(unittest.TestCase):
    def test_there_and_back(self):
        dice = random.Random(151)
        for each in range(80):
            kind, one = random_world(dice)
            plans = [plan for plan in (wild_plan(dice, BOOK, kind) for each in range(3)) if plan is not None]
            worth = random_worth(dice, BOOK, kind)
            if misfit(BOOK, kind, worth) is not None:
                continue
            image = imaged(BOOK, one, worth)
            for other in plans:
                told = cast(one, other, image)
                self.assertEqual(told, imaged(BOOK, other, worth))
                self.assertIsNone(imagefault(other, told))
                self.assertEqual(cast(other, one, told), image)
                for third in plans:
                    self.assertEqual(cast(other, third, told), cast(one, third, image))

    def test_by_hand(self):
        self.assertEqual(FIELDS[0][0], FAR[0][0])
        image = (0, 31 << 24 | 1 << 8 | 258 << 32, ())
        self.assertEqual(worth_of(FIELDS, image), (31, True, 258))
        self.assertEqual(cast(FIELDS, FAR, image), imaged((), FAR, (31, True, 258)))
        self.assertEqual(cast(FIELDS, FIELDS, image), image)

    def test_bad_image(self):
        for image in NO_THINGS + ((0, 1, ()), (1, 0, ()), (0, 2 << 8, ()), (False, 0, ())):
            fault = imagefault(FIELDS, image)
            if fault is not None:
                self.assertEqual(refusal(cast, FIELDS, FAR, image), ("BadImage",) + fault)
                self.assertEqual(refusal(read_grown, FIELDS, image, PAPER), ("BadImage",) + fault)


class LaidTest(unittest.TestCase):
    """What the tests below ask alike of a store that was laid anew."""

    def anew(self, book, plan, room, worths):
        """A store of a plan in which worths are filled by rising handles; those are told as they should be."""
        store = Store(book, plan, room=room)
        handles = {}
        for handle in sorted(worths):
            handles[store.fill(worths[handle])] = handle
        told = store.told()
        return (told[0], told[1], tuple((handles[handle], address) for handle, address in told[2])), store.blocks()

    def laid(self, store, book, plan, room, worths):
        self.assertEqual((store.told(), store.blocks()), self.anew(book, plan, room, worths))
        self.assertIsNone(soundfault(book, plan, *store.told()))
        for handle in worths:
            self.assertTrue(alike(store.worth(handle), worths[handle]))
        self.assertEqual(store.used(), sum(weight(plan, store.image(handle)) for handle in worths))


class RecastTest(LaidTest):
    def test_recast(self):
        dice = random.Random(152)
        for each in range(60):
            kind, one = random_world(dice)
            other = wild_plan(dice, BOOK, kind)
            worths = {number + 1: random_worth(dice, BOOK, kind, 2) for number in range(4)}
            if other is None or any(misfit(BOOK, kind, worth) is not None for worth in worths.values()):
                continue
            need = max(sum(weight(plan, imaged(BOOK, plan, worth)) for worth in worths.values())
                       for plan in (one, other))
            if need > 2048:
                continue
            store = Store(BOOK, one, room=need)
            for worth in worths.values():
                store.fill(worth)
            gone = dice.randint(1, 4)
            store.free(gone)
            del worths[gone]
            for plan in (other, one, one, other):
                self.assertIsNone(recast(store, plan))
                self.laid(store, BOOK, plan, need, worths)
            self.assertEqual(store.ends(), (9, 9))
            self.assertEqual(len(store), 3)

    def test_handles_and_the_next_handle_stay(self):
        plans = [planned(LIST, LIST8, **wishes) for wishes in WISHES]
        store = Store(LIST, plans[0])
        for number in range(5):
            store.fill(numbers(number))
        for handle in (1, 3, 5):
            store.free(handle)
        for plan in plans:
            recast(store, plan)
            self.assertEqual([handle for handle, address in store.told()[2]], [2, 4])
        self.assertEqual(store.fill(NIL), 6)
        recast(store, plans[0])
        self.assertEqual(store.fill(NIL), 7)
        empty = Store(LIST, plans[0])
        recast(empty, plans[1])
        self.assertTrue(empty == Store(LIST, plans[1]))
        self.assertEqual(empty.fill(NIL), 1)

    def test_views_and_runs_go_on(self):
        one, other = planned((), KIND), PLAN
        store = Store((), one)
        store.fill(WORTH)
        view = View(store, 1, (field("r"), at(1)))
        twin = store.twin()
        recast(store, other)
        self.assertEqual(view.read(), 2)
        self.assertEqual(view.where(), (8, 80, 8))
        view.write(99)
        self.assertEqual(store.worth(1)[2], (1, 99, 3))
        self.assertEqual(twin.worth(1), WORTH)
        code = (("frame",), ("field", 0, 0), ("fetch", 1), ("say", False), ("end",))
        self.assertEqual(run(store, 1, code)[0], (7,))
        recast(store, one)
        self.assertEqual(view.read(), 99)
        self.assertEqual(store.ends(), (5, 5))

    def refused(self, store, other, *told):
        before, deeds = store.twin(), store.ends()[0]
        self.assertEqual(refusal(recast, store, other), told)
        self.assertTrue(store == before)
        self.assertEqual((store.blocks(), store.ends()), (before.blocks(), (deeds + 1, deeds + 1)))
        self.assertEqual(store.fill(store.worth(1)), before.fill(before.worth(1)))
        store.free(store.told()[2][-1][0])

    def test_bad_plan(self):
        store = Store(LIST, planned(LIST, LIST8))
        store.fill(numbers(1))
        for plan in NO_THINGS + (planned(LIST, LIST8)[:2], ((T, ("slot", 3)),)):
            self.refused(store, plan, "BadPlan", *planfault(LIST, plan))
        # A plan that holds under another book alone.
        self.refused(store, planned(NEW_BOOK, NEW_LIST), "BadPlan", *planfault(LIST, planned(NEW_BOOK, NEW_LIST)))

    def test_another_root(self):
        store = Store(LIST, planned(LIST, LIST8), room=8)
        store.fill(NIL)
        for kind in (N8, use("list", T), box(LIST8), record(a=LIST8), maybe(LIST8)):
            store.free(store.told()[2][0][0])
            store.fill(NIL)
            before = store.twin()
            self.assertEqual(refusal(recast, store, planned(LIST, kind)), ("BadPlan", 0, "root"))
            self.assertTrue(store == before)

    def test_full(self):
        small = planned((), row(3, maybe(nat(60))), great=4096)
        far = planned((), row(3, maybe(nat(60))), great=16)
        worths = [((1,), (2,), ()), ((3,), (), ()), ((), (), ())]
        weights = [[weight(plan, imaged((), plan, worth)) for worth in worths] for plan in (small, far)]
        self.assertNotEqual(sum(weights[0]), sum(weights[1]))
        for room in range(max(weights[0]), 200, 8):
            store = Store((), small, room=room)
            for worth in worths:
                if store.used() + weight(small, imaged((), small, worth)) <= room:
                    store.fill(worth)
            kept = [store.worth(handle) for handle, address in store.told()[2]]
            need = sum(weight(far, imaged((), far, worth)) for worth in kept)
            before = store.twin()
            if need > room:
                self.assertEqual(refusal(recast, store, far), ("Full", need, room))
                self.assertTrue(store == before)
            else:
                self.assertIsNone(refusal(recast, store, far))
                self.assertEqual([store.worth(handle) for handle, address in store.told()[2]], kept)

    def test_full_by_hand(self):
        """Pairs of truths: behind pointers they need three blocks, else one."""
        kind = record(a=T, b=T)
        near = ((kind, ("fields", 2, ((0, 1, False), (1, 1, False)))), (T, ("slot", 1)))
        far = ((kind, ("fields", 32, ((0, 1, True), (16, 1, True)))), (T, ("slot", 1)))
        store = Store((), near, room=24)
        store.fill((True, False))
        recast(store, far)
        self.assertEqual([block[0] for block in store.blocks()], [8, 16, 24])
        recast(store, near)
        store.fill((True, True))
        self.refused(store, far, "Full", 48, 24)
        self.assertEqual(store.worth(2), (True, True))
        store.free(1)
        recast(store, far)
        self.assertEqual(store.worth(2), (True, True))


class GrownTest(unittest.TestCase):
    def test_read_grown(self):
        plan = planned(LIST, LIST8)
        for heads in ((), (1,), (1, 2, 255)):
            self.assertEqual(read_grown(plan, imaged(LIST, plan, numbers(*heads)), LIST_PAPER), longer(*heads))
        plan = planned((), OLD)
        image = imaged((), plan, (5, ("x", True), (1, 2), (False,), True))
        self.assertEqual(read_grown(plan, image, PAPER), (("x", True), (), 5, (1, 2, 7, 8), (False,), (True,)))
        fault = imagefault(plan, (0, -1, ()))
        self.assertEqual(refusal(read_grown, plan, (0, -1, ()), PAPER), ("BadImage",) + fault)

    def test_read_grown_may_be_no_worth(self):
        old, new = (("chain", (), maybe(box(use("chain")))),), (("chain", (), maybe(box(box(use("chain"))))),)
        paper = growth(old, use("chain"), new, use("chain"))
        plan = planned(old, use("chain"))
        worth = ()
        for each in range(12):
            worth = (worth,)
        self.assertTrue(alike(read_grown(plan, imaged(old, plan, worth), paper), worth))


class RegrownTest(LaidTest):
    def lists(self, room=512):
        store = Store(LIST, planned(LIST, LIST8), room=room)
        for heads in ((1, 2), (), (3,)):
            store.fill(numbers(*heads))
        return store

    def test_regrown(self):
        store = self.lists()
        store.free(2)
        for wishes in WISHES[::5]:
            other = store.twin()
            plan = planned(NEW_BOOK, NEW_LIST, **wishes)
            self.assertIsNone(regrown(other, NEW_BOOK, plan, LIST_PAPER))
            self.laid(other, NEW_BOOK, plan, 512, {1: longer(1, 2), 3: longer(3)})
            self.assertEqual(other.ends(), (5, 5))
            self.assertEqual(other.fill(longer(300)), 4)
            self.assertEqual(refusal(other.fill, numbers(5))[0], "Misfit")
            # The new book is the store's by then.
            self.assertIsNone(refusal(recast, other, planned(NEW_BOOK, NEW_LIST)))
            self.assertEqual(refusal(recast, other, planned(LIST, LIST8))[0], "BadPlan")
            self.assertEqual(other.twin().worth(1), longer(1, 2))
        self.assertEqual(store.worth(1), numbers(1, 2))

    def test_views_made_ahead(self):
        store = self.lists()
        tail = View(store, 1, TAIL)
        head = View(store, 1, (arm("cons"), field("head")))
        second = View(store, 1, TAIL + (arm("cons"), field("head")))
        nil = View(store, 2, (arm("nil"),))
        regrown(store, NEW_BOOK, planned(NEW_BOOK, NEW_LIST), LIST_PAPER)
        self.assertEqual((tail.read(), head.read(), second.read(), nil.read()), (longer(2), 1, 2, ()))
        head.write(60000)
        self.assertEqual(store.worth(1), ("cons", (longer(2), False, 60000)))
        self.assertEqual(head.where()[2], 16)
        tail.write(longer(7, 8, 9))
        self.assertEqual(store.worth(1), ("cons", (longer(7, 8, 9), False, 60000)))
        self.assertEqual(View(store, 3, (arm("cons"), field("mark"))).read(), False)

    def test_views_whose_steps_fit_no_more(self):
        old, new = record(a=row(3, N8), b=T, c=variant(x=T)), record(z=row(4, N8), b=maybe(T), c=variant(x=maybe(T)))
        paper = growth((), old, (), new, renamed=(("a", "z"),))
        store = Store((), planned((), old))
        store.fill(((1, 2, 3), True, ("x", True)))
        views = [View(store, 1, path) for path in ((field("a"),), (field("a"), at(1)), (field("b"),),
                                                   (field("c"), arm("x")), (), (field("c"),))]
        strange = View(store, 9, (field("a"),))
        deeds = store.ends()[0]
        regrown(store, (), planned((), new), paper)
        for view, step in zip(views[:2], (0, 0)):
            for call in (view.read, view.where, lambda: view.write(None)):
                self.assertEqual(refusal(call), ("BadPath", step))
            self.assertEqual(refusal(view.further, ()), ("BadPath", step))
        self.assertEqual(refusal(strange.read), ("NoHandle", 9))
        self.assertEqual([view.read() for view in views[2:]],
                         [(True,), (True,), ((1, 2, 3, 0), (True,), ("x", (True,))), ("x", (True,))])
        views[2].write(())
        self.assertEqual(refusal(views[2].write, True), ("Misfit", (field("b"),)))
        self.assertEqual(store.worth(1), ((1, 2, 3, 0), (), ("x", (True,))))
        self.assertEqual(store.ends(), (deeds + 5, deeds + 5))
        self.assertEqual(refusal(View, store, 1, (field("a"),)), ("BadPath", 0))

    def test_a_row_that_has_grown(self):
        store = Store((), planned((), row(2, N8)))
        store.fill((1, 2))
        view = View(store, 1, (at(2),))
        self.assertEqual(refusal(view.read), ("OutOfRow", 0))
        regrown(store, (), planned((), row(3, N8)), growth((), row(2, N8), (), row(3, N8)))
        self.assertEqual(view.read(), 0)

    def test_roots_as_seen(self):
        """The plans' roots may be uses and boxes; the paper's aren't."""
        for one, other in ((T, box(T)), (box(T), T), (use("one", T), TWELVE), (TWELVE, use("one", T))):
            store = Store(BOXES, planned(BOXES, one))
            store.fill(True)
            regrown(store, BOXES, planned(BOXES, other), (TRUTHS,))
            self.laid(store, BOXES, planned(BOXES, other), 512, {1: True})

    def grown_refused(self, store, new, plan, paper, *told):
        before, deeds = store.twin(), store.ends()[0]
        self.assertEqual(refusal(regrown, store, new, plan, paper), told)
        self.assertTrue(store == before)
        self.assertEqual((store.blocks(), store.ends()), (before.blocks(), (deeds + 1, deeds + 1)))
        self.assertEqual(store.book, before.book)

    def test_bad_book(self):
        store = self.lists()
        for book, place, why in ((WRONG_BOOK, (0, 0), "name"), (None, (), "book"), ((None,), (0,), "entry")):
            self.grown_refused(store, book, planned(NEW_BOOK, NEW_LIST), LIST_PAPER, "BadBook", place, why)
            self.grown_refused(store, book, None, None, "BadBook", place, why)

    def test_bad_plan_of_the_new_book(self):
        store = self.lists()
        for plan in NO_THINGS + (planned(LIST, LIST8),):
            self.grown_refused(store, NEW_BOOK, plan, LIST_PAPER, "BadPlan", *planfault(NEW_BOOK, plan))
            self.grown_refused(store, NEW_BOOK, plan, None, "BadPlan", *planfault(NEW_BOOK, plan))

    def test_bad_paper(self):
        store = self.lists()
        plan = planned(NEW_BOOK, NEW_LIST)
        for paper, row_number, why in ((None, -1, "paper"), ((), -1, "paper"), ((None,), 0, "form"),
                                       (LIST_PAPER + (None,), len(LIST_PAPER), "form"),
                                       (((T, N8, ("truth",)),), 0, "step"),
                                       (LIST_PAPER[:1] + (TRUTHS,) * 4, 0, "pair")):
            self.grown_refused(store, NEW_BOOK, plan, paper, "BadPaper", row_number, why)

    def test_a_paper_of_other_roots(self):
        store = self.lists()
        plan = planned(NEW_BOOK, NEW_LIST)
        for paper in ((TRUTHS,), (NUMBERS,), growth(LIST, use("list", N16), NEW_BOOK, NEW_LIST),
                      growth(LIST, LIST8, NEW_BOOK, use("list", nat(17)))):
            self.grown_refused(store, NEW_BOOK, plan, paper, "BadPaper", 0, "root")
        store = Store(BOXES, planned(BOXES, THIRTEEN))
        self.grown_refused(store, BOXES, planned(BOXES, T), (TRUTHS,), "BadPaper", 0, "root")
        store = Store(BOXES, planned(BOXES, T))
        self.grown_refused(store, BOXES, planned(BOXES, THIRTEEN), (TRUTHS,), "BadPaper", 0, "root")

    def test_misfit(self):
        old, new = (("chain", (), maybe(box(use("chain")))),), (("chain", (), maybe(box(box(use("chain"))))),)
        paper = growth(old, use("chain"), new, use("chain"))
        store = Store(old, planned(old, use("chain")), room=200)

        def chain(many):
            worth = ()
            for each in range(many):
                worth = (worth,)
            return worth

        for many in (6, 8, 7):
            store.fill(chain(many))
        self.grown_refused(store, new, planned(new, use("chain")), paper, "Misfit", (SOME,) * 7)
        store.free(2)
        self.grown_refused(store, new, planned(new, use("chain")), paper, "Misfit", (SOME,) * 7)
        store.free(3)
        regrown(store, new, planned(new, use("chain")), paper)
        self.laid(store, new, planned(new, use("chain")), 200, {1: chain(6)})

    def test_misfit_of_the_first_root_by_rising_handles(self):
        """Two roots would have too many parts, at unlike places."""
        small = row(4, box(row(10, row(11, T))))
        old = record(n=N8, a=maybe(small), b=maybe(small))
        new = record(n=N8, a=maybe(row(4, box(row(10, row(12, T))))), b=maybe(row(4, box(row(10, row(12, T))))), c=T)
        paper = growth((), old, (), new)
        thing = (((True,) * 11,) * 10,) * 4
        plan = planned((), new)
        store = Store((), planned((), old), room=2048)
        store.fill((1, (thing,), ()))
        store.fill((2, (thing,), (thing,)))
        path = misfit((), new, grown(paper, store.worth(2)))
        self.assertIsNotNone(path)
        self.grown_refused(store, (), plan, paper, "Misfit", path)
        store.fill((3, (thing,), (thing,)))
        store.free(2)
        self.grown_refused(store, (), plan, paper, "Misfit", path)
        store.free(3)
        regrown(store, (), plan, paper)
        self.assertIsNone(misfit((), new, store.worth(1)))

    def test_misfit_ahead_of_full(self):
        old, new = (("chain", (), maybe(box(use("chain")))),), (("chain", (), maybe(box(box(use("chain"))))),)
        paper = growth(old, use("chain"), new, use("chain"))
        worth = ()
        for each in range(7):
            worth = (worth,)
        plan = planned(old, use("chain"))
        store = Store(old, plan, room=weight(plan, imaged(old, plan, worth)))
        store.fill(worth)
        self.grown_refused(store, new, planned(new, use("chain")), paper, "Misfit", (SOME,) * 7)
        store.free(1)
        handle = store.fill(worth[0])
        need = weight(planned(new, use("chain")), imaged(new, planned(new, use("chain")), worth[0]))
        self.grown_refused(store, new, planned(new, use("chain")), paper, "Full", need, 64)
        self.assertEqual(store.worth(handle), worth[0])

    def test_full_and_just_enough(self):
        """Twice as many boxes, so that all but the roots' own blocks are needed twice."""
        old, new = (("chain", (), maybe(box(use("chain")))),), (("chain", (), maybe(box(box(use("chain"))))),)
        paper = growth(old, use("chain"), new, use("chain"))
        plan = planned(new, use("chain"))
        one, other = ((((),),),), ((),)
        for room, fits in ((48, False), (72, False), (80, True), (88, True)):
            store = Store(old, planned(old, use("chain")), room=room)
            store.fill(one)
            store.fill(other)
            self.assertEqual(store.used(), 8 * (4 + 2))
            need = 8 * (1 + 2 * 3 + 1 + 2 * 1)
            if need <= room:
                regrown(store, new, plan, paper)
                self.laid(store, new, plan, room, {1: one, 2: other})
            else:
                self.grown_refused(store, new, plan, paper, "Full", need, room)
            self.assertEqual(need <= room, fits)

    def test_random_growings(self):
        dice = random.Random(153)
        looked = 0
        while looked < 60:
            kind = random_kind(dice, 2)
            pair = grown_pair(dice, kind)
            if pair is None or refusal(growth, BOOK, kind, BOOK, pair[0], renamed=pair[1]) is not None:
                continue
            plan, goal = wild_plan(dice, BOOK, kind), wild_plan(dice, BOOK, pair[0])
            try:
                worths = {number: random_worth(dice, BOOK, kind, 2) for number in (1, 2, 3)}
            except ValueError:
                continue
            if plan is None or goal is None or any(misfit(BOOK, kind, worth) is not None for worth in worths.values()):
                continue
            paper = growth(BOOK, kind, BOOK, pair[0], renamed=pair[1])
            due = {handle: grown(paper, worth) for handle, worth in worths.items()}
            if sum(weight(plan, imaged(BOOK, plan, worth)) for worth in worths.values()) > 2048:
                continue
            store = Store(BOOK, plan, room=2048)
            for worth in worths.values():
                store.fill(worth)
            for handle, worth in worths.items():
                self.assertTrue(alike(read_grown(plan, store.image(handle), paper), due[handle]))
            if any(misfit(BOOK, pair[0], worth) is not None for worth in due.values()):
                self.assertEqual(refusal(regrown, store, BOOK, goal, paper)[0], "Misfit")
            elif sum(weight(goal, imaged(BOOK, goal, worth)) for worth in due.values()) <= 2048:
                looked += 1
                regrown(store, BOOK, goal, paper)
                self.laid(store, BOOK, goal, 2048, due)


if __name__ == "__main__":
    unittest.main()
