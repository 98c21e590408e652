"""No recursion deeper than a few hundred calls, and the same answer each time, whatever is handed in: [2], L11."""

import sys
import unittest

from packedforms.books import bookfault, formfault
from packedforms.casts import cast, read_grown, recast, regrown
from packedforms.codelook import codefault
from packedforms.compiler import compiled
from packedforms.growcheck import growfault
from packedforms.growmaker import growth
from packedforms.growth import chained, grown, shrunk
from packedforms.images import imaged, imagefault, patternfault, weight, worth_of
from packedforms.kinds import alike
from packedforms.machine import run
from packedforms.maker import planned
from packedforms.needs import needfault, plainest
from packedforms.orders import fewest, orderfault
from packedforms.paths import meeting, part, path_end, replaced
from packedforms.plancheck import planfault
from packedforms.programs import programfault
from packedforms.reaches import highfault, kindfault, ringfault
from packedforms.sound import adopted, soundfault
from packedforms.store import Store
from packedforms.views import View, spot
from packedforms.walker import walked
from packedforms.worths import before, coded, decoded, deepness, misfit, sizeof, unranked
from tests.planning import simple_plan, with_form
from tests.things import BOXES, LIST, LIST8, N8, T, THIRTEEN, box, deep, maybe, record, refusal, row, use

CHECKERS = (formfault, kindfault, ringfault, highfault, needfault, planfault, programfault)
DEEP = (deep(280), deep(280, 1), deep(270, "a"), deep(1, deep(279)), (deep(270), deep(270)), (T, deep(270)),
        ("nat", deep(270)), ("record", deep(270)), ("record", (("a", deep(270)),)), ("use", "list", deep(270)),
        ((T, ("slot", deep(270))),), ((deep(270), 1),), ((T, 1), (T, deep(270))))

# As high as a kind can be between boxes, so that a worth lies as deep as it can.
HIGH = (("h", (), maybe(box(use("g")), 5)), ("g", (), maybe(use("h"), 2)))


def calls_deep():
    frame, many = sys._getframe(), 0
    while frame is not None:
        frame, many = frame.f_back, many + 1
    return many


class DepthTest(unittest.TestCase):
    def setUp(self):
        self.limit = sys.getrecursionlimit()
        sys.setrecursionlimit(calls_deep() + 200)

    def tearDown(self):
        sys.setrecursionlimit(self.limit)

    def twice(self, call, *told):
        first = call(*told)
        # Python's own comparison of tuples goes in by recursion.
        self.assertTrue(alike(call(*told), first))
        return first

    def test_deep_things(self):
        for thing in DEEP:
            self.assertIsNotNone(self.twice(bookfault, thing))
            self.assertIs(self.twice(alike, thing, thing), True)
            for call in CHECKERS:
                for book in ((), LIST, BOXES, thing):
                    self.assertIsNotNone(self.twice(call, book, thing))
            for kind in (T, N8, row(2, T), maybe(T)):
                self.assertIsNotNone(self.twice(misfit, (), kind, thing))
            self.assertEqual(refusal(coded, N8, thing), ("Misfit", ()))
            self.assertEqual(refusal(decoded, N8, thing)[0], "NoCode")
            self.assertEqual(refusal(unranked, (), N8, thing)[0], "NoRank")

    def test_deep_worths(self):
        kind = use("h")
        worth = deep(4 + 7 * 12)
        self.assertIsNone(self.twice(misfit, HIGH, kind, worth))
        self.assertEqual(self.twice(deepness, HIGH, kind, worth), 12)
        self.assertEqual(self.twice(sizeof, HIGH, kind, worth), 5 + 7 * 12)
        self.assertIs(self.twice(before, HIGH, kind, deep(3 + 7 * 12), worth), True)
        self.assertEqual(len(misfit(HIGH, kind, deep(280))), 5 + 7 * 12)

    def far_plan(self):
        """The plan of HIGH with each payload that may be so behind a pointer of its own."""
        plan = planned(HIGH, use("h"))
        for entry, (kind, form) in enumerate(plan):
            if form[0] == "pick":
                arms = ((32768, 0, -1, False), (-1, 0, form[5][1][2], True))
                plan = with_form(plan, entry, ("pick", 16, 0, 16, 1, arms))
        self.assertIsNone(planfault(HIGH, plan))
        return plan

    def test_deep_images(self):
        worth = deep(4 + 7 * 12)
        for plan in (planned(HIGH, use("h")), self.far_plan()):
            image = self.twice(imaged, HIGH, plan, worth)
            self.assertIsNone(self.twice(imagefault, plan, image))
            self.assertEqual(self.twice(worth_of, plan, image), worth)
            store = Store(HIGH, plan, room=2048)
            store.fill(worth)
            store.free(store.fill(()))
            store.fill(worth)
            store.free(1)
            self.assertEqual(store.together(), weight(plan, image) // 8)
            self.assertTrue(alike((store.worth(3), store.image(3)), (worth, image)))
        self.assertEqual(len(store.blocks()), 13 + 4 + 7 * 12)

    def test_deep_things_as_images_and_papers(self):
        plan = self.far_plan()
        for thing in DEEP:
            for entry in range(len(plan)):
                self.assertIsNotNone(self.twice(patternfault, plan, entry, thing))
                self.assertIsNotNone(self.twice(imagefault, plan, thing))
                self.assertIsNotNone(self.twice(imagefault, plan, (0, 0, (thing,))))
            self.assertIsNotNone(self.twice(orderfault, thing, thing))
            self.assertIsNotNone(self.twice(orderfault, ((1, 1), (8, 8)), thing))
            self.assertIsNotNone(self.twice(orderfault, ((1, 1), (8, 8)), (9, (1, 0), thing)))
        self.twice(fewest, ((9, 8), (3, 1), (12, 16), (4, 1), (64, 64)))

    def test_deep_stores(self):
        plan = self.far_plan()
        store = Store(HIGH, plan, room=2048)
        worth = deep(4 + 7 * 12)
        store.fill(worth)
        self.assertIsNone(self.twice(soundfault, HIGH, plan, *store.told()))
        self.assertTrue(alike(adopted(HIGH, plan, *store.told()).worth(1), worth))
        path = (("some",),) * 12
        view = View(store, 1, path)
        self.assertTrue(alike(view.read(), deep(4 + 7 * 12 - 12)))
        view.write(())
        self.assertTrue(alike(store.worth(1), deep(12)))
        view.write(deep(4 + 7 * 12 - 12))
        self.assertTrue(alike(store.worth(1), worth))
        self.assertEqual(len(view.where()), 3)
        self.assertEqual(len(spot(plan, path)[0]), 12 + 2)
        self.assertIsNone(soundfault(HIGH, plan, *store.told()))

    def test_deep_things_as_bytes_and_paths(self):
        plan = self.far_plan()
        for thing in DEEP:
            for told in ((thing, plan, 8, (0,) * 16, ()), (HIGH, thing, 8, (0,) * 16, ()), (HIGH, plan, thing, (), ()),
                         (HIGH, plan, 8, thing, ()), (HIGH, plan, 8, (0,) * 16, thing),
                         (HIGH, plan, 8, (0,) * 16, ((1, thing),))):
                self.assertIsNotNone(self.twice(soundfault, *told))
            self.assertEqual(refusal(path_end, HIGH, use("h"), thing)[0], "BadPath")
            self.assertEqual(refusal(spot, plan, thing)[0], "BadPath")
            self.assertEqual(refusal(part, HIGH, use("h"), (), thing)[0], "BadPath")
            self.assertEqual(refusal(meeting, HIGH, use("h"), (), thing)[0], "BadPath")
            self.assertEqual(refusal(replaced, (), T, True, (), thing), ("Misfit", ()))
            self.assertIsNotNone(self.twice(programfault, (), (record(a=T), thing)))
            self.assertIsNotNone(self.twice(programfault, (), (record(a=T), (thing,))))

    def test_deep_things_as_code_and_papers(self):
        plan = self.far_plan()
        for thing in DEEP:
            for code in (thing, (thing,), (("put", 0, thing), ("end",)), (("frame",), ("put", 0, thing), ("end",)),
                         (("turn", thing), ("end",)), (("number", thing), ("end",))):
                self.assertIsNotNone(self.twice(codefault, HIGH, plan, code))
            for told in ((thing, (), ()), ((), thing, ()), (HIGH, HIGH, thing), (HIGH, HIGH, (thing,)),
                         (HIGH, HIGH, ((T, T, thing),)), (HIGH, HIGH, ((thing, T, ("truth",)),)),
                         (HIGH, HIGH, ((row(1, T), row(2, T), ("row", 1, (thing,))), (T, T, ("truth",))))):
                self.assertIsNotNone(self.twice(growfault, *told))
            store = Store(HIGH, plan)
            self.assertEqual(refusal(run, store, thing, ())[0], "NoHandle")
            self.assertEqual(refusal(recast, store, thing)[0], "BadPlan")
            self.assertEqual(refusal(regrown, store, thing, plan, ())[0], "BadBook")
            self.assertEqual(refusal(cast, plan, plan, thing)[0], "BadImage")

    def test_deep_states(self):
        frame = record(x=use("h"), y=use("h"))
        x, y = (("field", "x"),), (("field", "y"),)
        program = (frame, (("copy", y, x), ("show", y), ("swap", x, y), ("put", x, ()), ("show", ())))
        worth = deep(4 + 7 * 12)
        state = (worth, ())
        for wishes in ({}, {"great": 16, "spare": False, "bits": False}):
            plan = planned(HIGH, frame, **wishes)
            due = self.twice(lambda: walked(HIGH, program, state, plan=plan, room=2048))
            self.assertEqual(due[1], "done")
            store = Store(HIGH, plan, room=2048)
            store.fill(state)
            code = self.twice(compiled, HIGH, plan, program)
            self.assertTrue(alike(run(store, 1, code), due[:4]))
            self.assertTrue(alike(store.worth(1), ((), worth)))

    def test_deep_growing(self):
        other = (("h", (), maybe(box(use("g")), 5)), ("g", (), maybe(use("h"), 2)))
        paper = self.twice(growth, HIGH, use("h"), other, use("h"))
        worth = deep(4 + 7 * 12)
        self.assertTrue(alike(self.twice(grown, paper, worth), worth))
        self.assertTrue(alike(self.twice(shrunk, paper, worth), worth))
        self.assertTrue(alike(self.twice(grown, self.twice(chained, paper, paper), worth), worth))
        one, two = planned(HIGH, use("h")), self.far_plan()
        image = imaged(HIGH, one, worth)
        self.assertTrue(alike(self.twice(cast, one, two, image), imaged(HIGH, two, worth)))
        self.assertTrue(alike(self.twice(read_grown, one, image, paper), worth))
        store = Store(HIGH, one, room=2048)
        store.fill(worth)
        recast(store, two)
        regrown(store, other, planned(other, use("h")), paper)
        self.assertTrue(alike(store.worth(1), worth))

    def test_deep_kinds(self):
        self.assertEqual(self.twice(plainest, (), maybe(T, 7)), ())
        kind = LIST8
        for each in range(2):
            kind = use("list", kind)
        self.assertIsNone(self.twice(kindfault, LIST, kind))
        self.assertIsNone(self.twice(planfault, LIST, simple_plan(LIST, kind)))
        self.assertIsNone(self.twice(kindfault, BOXES, record(a=THIRTEEN, b=use("tree"))))


if __name__ == "__main__":
    unittest.main()
