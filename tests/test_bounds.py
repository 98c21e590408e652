"""Programs at all bounds at once, whose places lead through as many uses and boxes as there can be: H4, H5."""

import random
import unittest

from packedforms.books import bookfault
from packedforms.codelook import MOST_ROWS, codefault
from packedforms.compiler import compiled
from packedforms.images import imaged, weight
from packedforms.machine import run
from packedforms.maker import planned
from packedforms.plancheck import planfault
from packedforms.programs import MOST_EXPRESSIONS, MOST_STATEMENTS, MOST_STEPS, programfault
from packedforms.reaches import kindfault, reach
from packedforms.store import Store
from packedforms.walker import walked
from packedforms.worths import misfit
from tests.test_compiler import WISHES
from tests.test_paths import SOME, arm, field
from tests.test_programs import SAY, get
from tests.test_walker import number
from tests.things import N8, box, hole, maybe, row, use
from tests.worlds import wild_plan

ARMS = "abcdefgh"
B, N, K, R = (field(name) for name in "bnkr")
RINGS = ("ca", "cb", "cc", "cd", "ce", "cf")


def in_uses(kind, many):
    """A kind behind so many uses."""
    for each in range(many % 3):
        kind = use("w", kind)
    for each in range(many // 3):
        kind = use("v", kind)
    return kind


def in_rows(kind, manies, boxed):
    """Rows of so many things within one another, the last one innermost."""
    for place, many in enumerate(manies[::-1]):
        kind = row(many, box(kind) if boxed and place > 0 else kind)
    return kind


class World:
    """A frame whose b leads through boxes, with uses ahead of each, to the frame again, whose n is a number behind
    uses, and whose r is rows in rows of a variant; its arm a leads to the frame as b does, where leads is True. Where
    stops is True, b is a maybe, so that the frame has worths."""

    def __init__(self, boxes, uses, tail, manies, boxed=True, leads=False, stops=False):
        ring = RINGS[:boxes - 1] + ("f",)
        # Above the first uses are b's maybe, the frame's record and the use f, and no kind is higher than 10.
        first = in_uses(box(use(ring[0])), min(uses, 6 if stops else 7) - 1)
        self.b = maybe(use("cz")) if stops else use("cz")
        book = [("w", ("x",), hole("x")), ("v", ("x",), use("w", use("w", hole("x")))), ("cz", (), first)]
        for name, goal in zip(ring, ring[1:]):
            book.append((name, (), in_uses(box(use(goal)), uses - 1)))
        kinds = {name: N8 for name in ARMS}
        if leads:
            # The row and the variant are above it, so the first uses are left out.
            kinds["a"] = maybe(box(use(ring[0]))) if stops else box(use(ring[0]))
        self.manies, self.leads, self.stops = manies, leads, stops
        # No more than 8 forms may be written within one another.
        book.append(("g", (), in_rows(("variant", tuple(kinds.items())), manies[-3:], boxed)))
        book.append(("o", (), in_rows(box(use("g")) if boxed else use("g"), manies[:-3], boxed)))
        r = use("o" if manies[:-3] else "g")
        self.frame = ("record", (("b", self.b), ("n", in_uses(N8, tail)), ("k", N8), ("r", r)))
        self.book = tuple(book) + (("f", (), self.frame),)
        self.back = (B, SOME) if stops else (B,)
        self.boxes, self.most = boxes, 12 // boxes
        self.row_boxes = len(manies) - 1 if boxed else 0

    def shapes(self):
        """Places of the variant, from the frame and from those to which it leads; None stands for a number."""
        into = (R,) + (("at", None),) * len(self.manies)
        further = into + (arm("a"),) + self.back[1:]
        found = []
        for backs in range(self.most + 1):
            for many in range(self.most + 1 - backs if self.leads else 1):
                shape = self.back * backs + further * many + into
                if len(shape) <= 8 and (backs + many) * self.boxes + (many + 1) * self.row_boxes <= 12:
                    found.append(shape)
        return found

    def gets(self, many, steps):
        """So many places of numbers, of so many steps together, or as many as can be, and how many steps are left."""
        backs = [0] * many
        left = steps - many
        for each in range(min(self.most, 7 // len(self.back)) * many):
            if left >= len(self.back):
                backs[each % many] += 1
                left -= len(self.back)
        return [get(self.back * each + (N,)) for each in backs], left


def joined(dice, words, expressions):
    """One expression of all these, as flat as may be."""
    if len(expressions) == 1:
        return expressions[0]
    half = len(expressions) // 2
    return (dice.choice(words), joined(dice, words, expressions[:half]), joined(dice, words, expressions[half:]))


class Writing:
    """Writes a program of picks at places of this shape, each with rows in so many arms as filled tells.

    Where near is True, most numbers lead into their rows."""

    def __init__(self, dice, world, shape, filled, words, near=False, within=False):
        self.dice, self.world, self.shape, self.words, self.near = dice, world, shape, words, near
        trees = len(filled) * sum(step[0] == "at" for step in shape)
        # Each tree has one inner expression less than leaves, and what brings it near are two more; that is one level
        # of the six, too.
        leaves = (MOST_EXPRESSIONS - trees if near else MOST_EXPRESSIONS + trees) // 2
        leaves = min(leaves, trees * (16 if near else 32))
        self.expressions = 2 * leaves + (trees if near else -trees)
        steps = MOST_STEPS - len(filled) * len(shape) - sum(filled)
        found, self.left = world.gets(leaves, steps)
        dice.shuffle(found)
        self.trees = [found[each::trees] for each in range(trees)]
        self.many = iter(range(1, 256))
        picks = [self.pick(many) for many in filled]
        self.rows = (self.nested(picks),) if within else tuple(picks)
        self.statements = len(filled) + sum(filled) - (len(filled) - 1 if within else 0)
        self.fill()

    def number(self, many):
        told = joined(self.dice, self.words, self.trees.pop())
        return ("rem", told, number(self.dice.choice((many,) * 9 + (many + 1,)))) if self.near else told

    def pick(self, filled):
        """A pick of which the first arms have a row that tells them from one another."""
        place, depth = (), 0
        for step in self.shape:
            if step[0] == "at":
                step = ("at", self.number(self.world.manies[depth]))
                depth = (depth + 1) % len(self.world.manies)
            place += (step,)
        return ("pick", place, tuple((name, (("put", (K,), next(self.many)),) if each < filled else ())
                                     for each, name in enumerate(ARMS)))

    def nested(self, picks):
        """The first pick with each other one in the stead of an arm's row."""
        pairs = picks[0][2]
        inner = tuple((name, (pick,)) for (name, rows), pick in zip(pairs, picks[1:]))
        return picks[0][:2] + (inner + pairs[len(inner):],)

    def fill(self):
        """Statements up to the bound, with what is left of steps and expressions."""
        while self.statements < MOST_STATEMENTS:
            self.statements += 1
            if self.expressions < MOST_EXPRESSIONS:
                leaves = min(32, (MOST_EXPRESSIONS - self.expressions + 1) // 2)
                self.expressions += 2 * leaves - 1
                self.rows += (("say", joined(self.dice, ("add",), [number(1)] * leaves)),)
            else:
                many = min(self.left, 1 if self.world.stops else self.world.most + 1)
                self.left -= many
                self.rows += (("show", (B,) * (many - 1) + (N,) if many else ()),)


class Bounds(unittest.TestCase):
    def code(self, world, plan, rows):
        program = (world.frame, rows)
        self.assertIsNone(programfault(world.book, program))
        code = compiled(world.book, plan, program)
        self.assertLessEqual(len(code), MOST_ROWS)
        self.assertIsNone(codefault(world.book, plan, code))
        return code

    def stands(self, world):
        self.assertIsNone(bookfault(world.book))
        self.assertIsNone(kindfault(world.book, world.frame))


FILLED = ((7,), (7, 7), (7,) * 5, (8,) * 4, (6,) * 5 + (4,), (5,) * 6, (4,) * 8, (3,) * 10, (2,) * 13, (1,) * 20)


class LongestCodeTest(Bounds):
    """Frames that no worth has, as their rings have no end; so the ways are as long as they can be."""

    WORLDS = (World(4, 9, 7, (16,)), World(5, 8, 7, (16, 16)), World(4, 9, 7, (4, 2, 4), boxed=False),
              World(4, 8, 7, (16,) * 5), World(6, 7, 6, (9,)), World(3, 9, 7, (4, 16), leads=True),
              World(5, 8, 7, (16, 16), leads=True), World(2, 8, 7, (16,), leads=True), World(1, 6, 7, (16,) * 4),
              World(2, 9, 7, (2,) * 6), World(5, 8, 5, (1, 16), leads=True))

    def test_all_worlds(self):
        dice = random.Random(181)
        most = 0
        for world in self.WORLDS:
            self.stands(world)
            plan = planned(world.book, world.frame)
            self.assertIsNone(planfault(world.book, plan))
            for shape in dice.sample(world.shapes(), min(3, len(world.shapes()))):
                # Where most steps are those of the picks themselves, none are left for their numbers.
                for filled in dice.sample([filled for filled in FILLED if len(filled) * len(shape) <= 72], 3):
                    within = 1 < len(filled) <= filled[0] and dice.random() < 0.3
                    words = dice.choice((("add",), ("sub", "mul"), ("div", "rem")))
                    writing = Writing(dice, world, shape, filled, words, within=within)
                    most = max(most, len(self.code(world, plan, writing.rows)))
        self.assertGreater(most, 20000)

    def test_picks_that_reckon_most(self):
        """One or a few picks that have all expressions; going to their places anew for each arm would take too long."""
        dice = random.Random(185)
        for world in (World(4, 9, 7, (16, 16)), World(4, 9, 7, (16,) * 3), World(4, 9, 7, (16,), leads=True)):
            self.stands(world)
            plan = planned(world.book, world.frame)
            for shape in world.shapes():
                for filled in ((7,), (8,) * 3):
                    if sum(step[0] == "at" for step in shape) > 1:
                        self.code(world, plan, Writing(dice, world, shape, filled, ("add", "div")).rows)

    def test_at_the_bounds(self):
        """Neither a statement nor an expression nor a step more is let by."""
        world = self.WORLDS[3]
        for filled in ((7,), (7, 7), (7,) * 4):
            writing = Writing(random.Random(182), world, world.shapes()[0], filled, ("add",))
            plan = planned(world.book, world.frame)
            self.code(world, plan, writing.rows)
            self.assertEqual((writing.statements, writing.expressions, writing.left), (40, 120, 0))
            self.assertEqual(writing.rows[-1], ("show", ()))
            for more, place in ((SAY, (1,)), (("show", (N,)), (1, 0))):
                rows = writing.rows[:-1] + (more,)
                last = (1, len(rows) - 1) + place
                self.assertEqual(programfault(world.book, (world.frame, rows)), (last, "many"))
            rows = writing.rows + (("show", ()),)
            self.assertEqual(programfault(world.book, (world.frame, rows)), ((1, len(rows) - 1), "many"))

    def test_under_all_plans(self):
        """The number of rows is the same under each, as no row is for far parts or hosts."""
        dice = random.Random(183)
        world = World(3, 6, 4, (3, 2), leads=True)
        self.stands(world)
        rows = Writing(dice, world, world.shapes()[-1], (7, 8), ("add", "rem")).rows
        plans = [planned(world.book, world.frame, **wishes) for wishes in WISHES]
        wild = [wild_plan(dice, world.book, world.frame) for each in range(8)]
        plans += [plan for plan in wild if plan is not None]
        self.assertGreater(len(plans), len(WISHES) + 4)
        self.assertEqual(len({len(self.code(world, plan, rows)) for plan in plans}), 1)


class RunTest(Bounds):
    """Frames that have worths: run tells what walked tells."""

    WORLDS = (World(4, 8, 6, (16,), stops=True), World(3, 8, 7, (5, 4), stops=True),
              World(4, 8, 5, (2, 3, 2), boxed=False, stops=True), World(2, 8, 7, (2, 2), leads=True, stops=True),
              World(4, 8, 6, (3,), leads=True, stops=True), World(3, 7, 7, (2, 2, 2, 2), stops=True))

    def state(self, dice, world, level):
        """A worth of the frame with so many frames behind it at most."""
        further = (self.state(dice, world, level - 1),) if level > 0 and dice.random() < 0.95 else ()
        return (further, dice.choice((0, 1, 1, 2)), 0, self.things(dice, world, level, world.manies))

    def things(self, dice, world, level, manies):
        if manies:
            return tuple(self.things(dice, world, level, manies[1:]) for each in range(manies[0]))
        name = dice.choice("aaa" + ARMS if world.leads and level > 1 else ARMS)
        if name == "a" and world.leads:
            return (name, (self.state(dice, world, level - 2),) if level > 1 else ())
        return (name, dice.randrange(256))

    def worth(self, dice, world, plan):
        while True:
            worth = self.state(dice, world, world.most)
            if misfit(world.book, world.frame, worth) is None:
                if weight(plan, imaged(world.book, plan, worth)) <= 2048:
                    return worth

    def test_run_beside_walked(self):
        dice = random.Random(184)
        ends, most = {}, 0
        for world in self.WORLDS:
            self.stands(world)
            self.assertLessEqual(len(reach(world.book, world.frame)), 60)
            for shape in world.shapes():
                plan = planned(world.book, world.frame, **dice.choice(WISHES))
                filled = dice.choice(FILLED[:7])
                within = 1 < len(filled) <= filled[0] and dice.random() < 0.3
                words = dice.choice((("add",), ("add", "sub"), ("add", "add", "add", "mul")))
                rows = Writing(dice, world, shape, filled, words, near=True, within=within).rows
                code = self.code(world, plan, rows)
                most = max(most, len(code))
                for many in range(3):
                    end = self.beside(world, plan, (world.frame, rows), code, self.worth(dice, world, plan))
                    ends[end] = ends.get(end, 0) + 1
        self.assertGreater(most, 10000)
        self.assertGreaterEqual(set(ends), {"done", "row", "arm"})
        self.assertGreater(ends["done"], 10)

    def beside(self, world, plan, program, code, worth):
        store = Store(world.book, plan, room=2048)
        store.fill(worth)
        due = walked(world.book, program, worth, plan=plan, room=2048)
        self.assertEqual(run(store, 1, code), due[:4])
        self.assertEqual(store.worth(1), due[4])
        return due[1]


if __name__ == "__main__":
    unittest.main()
