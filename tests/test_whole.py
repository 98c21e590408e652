"""The whole promise [3]: long histories of all deeds beside the worths kept by hand."""

import random
import unittest

from packedforms.casts import cast, recast, regrown
from packedforms.compiler import compiled
from packedforms.growmaker import growth
from packedforms.growth import grown, shrunk
from packedforms.images import imaged, weight, worth_of
from packedforms.kinds import alike
from packedforms.machine import run
from packedforms.maker import planned
from packedforms.paths import replaced
from packedforms.sound import adopted, soundfault
from packedforms.store import Store
from packedforms.views import View
from packedforms.walker import walked
from packedforms.worths import misfit
from tests.growing import grown_pair
from tests.scripts import random_frame, random_program
from tests.test_compiler import WISHES
from tests.test_paths import random_path
from tests.things import LIST8, N8, T, box, maybe, nat, record, refusal, row, use, variant
from tests.worlds import BOOK, random_worth, wild_plan

WIDE = variant(two=box(row(2, nat(64))), five=box(row(5, nat(64))), nine=box(row(9, nat(64))))
FRAMES = (record(a=LIST8, b=LIST8, n=N8), record(t=use("tree"), u=use("tree"), x=T), record(v=WIDE, w=WIDE, i=N8),
          record(c=use("chain"), m=maybe(N8)))


class History:
    """A store, and by hand the kind of its roots, the worths by their handles and how many deeds there were."""

    def __init__(self, test, dice):
        self.test, self.dice = test, dice
        self.kind = dice.choice(FRAMES) if dice.random() < 0.7 else random_frame(dice)
        self.plan = self.new_plan(self.kind)
        self.room = 8 * dice.choice((12, 30, 60))
        self.store = Store(BOOK, self.plan, room=self.room)
        self.worths, self.next, self.deeds = {}, 1, 0
        self.done = {}

    def new_plan(self, kind):
        for each in range(9):
            plan = wild_plan(self.dice, BOOK, kind)
            if plan is not None and self.dice.random() < 0.7:
                return plan
        return planned(BOOK, kind, **self.dice.choice(WISHES))

    def weight_of(self, worth, plan=None):
        plan = self.plan if plan is None else plan
        return weight(plan, imaged(BOOK, plan, worth))

    def rest(self):
        return self.room - sum(self.weight_of(worth) for worth in self.worths.values())

    def some_worth(self, kind):
        try:
            return random_worth(self.dice, BOOK, kind, self.dice.randint(0, 4))
        except ValueError:
            return None

    def count(self, word):
        self.done[word] = self.done.get(word, 0) + 1

    def fill(self):
        worth = self.some_worth(self.kind)
        self.deeds += 1
        path = misfit(BOOK, self.kind, worth)
        if path is not None:
            self.test.assertEqual(refusal(self.store.fill, worth), ("Misfit", path))
            self.count("misfit")
        elif self.weight_of(worth) > self.rest():
            self.test.assertEqual(refusal(self.store.fill, worth), ("Full", self.weight_of(worth), self.rest()))
            self.count("fill full")
        else:
            self.test.assertEqual(self.store.fill(worth), self.next)
            self.worths[self.next] = worth
            self.next += 1
            self.count("fill")

    def handle(self):
        return self.dice.choice(sorted(self.worths)) if self.worths else None

    def free(self):
        handle = self.handle()
        self.deeds += 1
        if handle is None or self.dice.random() < 0.1:
            self.test.assertEqual(refusal(self.store.free, self.next), ("NoHandle", self.next))
        else:
            self.store.free(handle)
            del self.worths[handle]
            self.count("free")

    def together(self):
        self.deeds += 1
        before = self.store.blocks()
        moved = self.store.together()
        self.test.assertEqual(moved, sum(one[0] != other[0] for one, other in zip(before, self.store.blocks())))

    def write(self):
        handle = self.handle()
        if handle is None:
            return
        path, kind = random_path(self.dice, BOOK, self.kind, 4)
        other = self.some_worth(kind)
        view = View(self.store, handle, path)
        self.deeds += 1
        told = refusal(replaced, BOOK, self.kind, self.worths[handle], path, other)
        if told is not None:
            self.test.assertEqual(refusal(view.write, other), told)
            self.count("write refused")
            return
        whole = replaced(BOOK, self.kind, self.worths[handle], path, other)
        if self.weight_of(whole) - self.weight_of(self.worths[handle]) > self.rest():
            self.test.assertEqual(refusal(view.write, other)[0], "Full")
            self.count("write full")
            return
        view.write(other)
        self.test.assertTrue(alike(view.read(), other))
        self.worths[handle] = whole
        self.count("write")

    def run(self):
        handle = self.handle()
        if handle is None or self.kind[0] != "record":
            return
        program = random_program(self.dice, BOOK, self.kind, 0.95, far=self.dice.choice((0.4, 0.7)))
        worth = self.worths[handle]
        room = self.rest() + self.weight_of(worth)
        turns = self.dice.choice((3, 10, 60))
        due = walked(BOOK, program, worth, turns=turns, plan=self.plan, room=room)
        self.deeds += 1
        told = run(self.store, handle, compiled(BOOK, self.plan, program), turns=turns)
        self.test.assertTrue(alike(told, due[:4]))
        self.worths[handle] = due[4]
        self.count("run " + due[1])

    def recast(self):
        plan = self.new_plan(self.kind)
        need = sum(self.weight_of(worth, plan) for worth in self.worths.values())
        self.deeds += 1
        for handle, worth in self.worths.items():
            image = cast(self.plan, plan, self.store.image(handle))
            self.test.assertEqual(image, imaged(BOOK, plan, worth))
            self.test.assertEqual(cast(plan, self.plan, image), self.store.image(handle))
        if need > self.room:
            self.test.assertEqual(refusal(recast, self.store, plan), ("Full", need, self.room))
            self.count("recast full")
        else:
            recast(self.store, plan)
            self.plan = plan
            self.count("recast")

    def regrow(self):
        pair = grown_pair(self.dice, self.kind)
        if pair is None or refusal(growth, BOOK, self.kind, BOOK, pair[0], renamed=pair[1]) is not None:
            return
        kind, renamed = pair
        if kind[0] != "record" or refusal(planned, BOOK, kind) is not None:
            return
        paper = growth(BOOK, self.kind, BOOK, kind, renamed=renamed)
        plan = self.new_plan(kind)
        due = {handle: grown(paper, worth) for handle, worth in self.worths.items()}
        for handle, worth in due.items():
            self.test.assertTrue(alike(shrunk(paper, worth), self.worths[handle]))
        self.deeds += 1
        misfits = [misfit(BOOK, kind, due[handle]) for handle in sorted(due)]
        misfits = [path for path in misfits if path is not None]
        if misfits:
            self.test.assertEqual(refusal(regrown, self.store, BOOK, plan, paper), ("Misfit", misfits[0]))
            self.count("regrow misfit")
            return
        need = sum(self.weight_of(worth, plan) for worth in due.values())
        if need > self.room:
            self.test.assertEqual(refusal(regrown, self.store, BOOK, plan, paper), ("Full", need, self.room))
            self.count("regrow full")
            return
        regrown(self.store, BOOK, plan, paper)
        self.kind, self.plan, self.worths = kind, plan, due
        self.count("regrow")

    def adopt(self):
        """The store is told, and what is told goes on as another store."""
        told = self.store.told()
        other = adopted(BOOK, self.plan, *told)
        self.test.assertTrue(other == self.store)
        self.test.assertEqual(other.blocks(), self.store.blocks())
        self.store, self.deeds = other, 0
        self.next = max(self.worths, default=0) + 1
        self.count("adopt")

    def twin(self):
        """A twin goes on, and what is done to the first one is nothing to it."""
        first, self.store = self.store, self.store.twin()
        for handle in list(self.worths):
            first.free(handle)
        self.test.assertEqual(len(first), 0)

    def check(self):
        test, store = self.test, self.store
        for handle, worth in self.worths.items():
            test.assertTrue(alike(store.worth(handle), worth))
            test.assertEqual(store.image(handle), imaged(BOOK, self.plan, worth))
            test.assertTrue(alike(worth_of(self.plan, store.image(handle)), worth))
        told = store.told()
        test.assertEqual([handle for handle, address in told[2]], sorted(self.worths))
        test.assertIsNone(soundfault(BOOK, self.plan, *told))
        test.assertEqual(store.used(), self.room - self.rest())
        test.assertEqual(sum(block[1] for block in store.blocks()), store.used())
        test.assertEqual(store.ends(), (self.deeds, self.deeds))
        test.assertEqual(len(store), len(self.worths))
        test.assertEqual(str(store), f"{len(self.worths)} roots, {store.used()} of {self.room} bytes")


class WholeTest(unittest.TestCase):
    def test_histories(self):
        done = {}
        for seed in range(30):
            dice = random.Random(1600 + seed)
            history = History(self, dice)
            deeds = [history.fill] * 5 + [history.free] * 2 + [history.write] * 6 + [history.run] * 4
            deeds += [history.together, history.recast, history.recast, history.regrow, history.adopt, history.twin]
            for each in range(60):
                dice.choice(deeds)()
                history.check()
            for word, many in history.done.items():
                done[word] = done.get(word, 0) + many
        for word in ("fill", "fill full", "free", "write", "write refused", "write full", "run done", "run dry",
                     "run arm", "run full", "recast", "recast full", "regrow", "adopt"):
            self.assertGreater(done.get(word, 0), 0, done)


if __name__ == "__main__":
    unittest.main()
