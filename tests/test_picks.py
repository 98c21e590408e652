"""Picks that ask for all their arms at once, as their numbers take long to reckon: H4, H5."""

import random
import unittest
from unittest.mock import patch

from packedforms.codelook import codefault
from packedforms.compiler import compiled
from packedforms.images import imaged, weight
from packedforms.machine import run
from packedforms.maker import planned
from packedforms.programs import programfault
from packedforms.reaches import kindfault
from packedforms.sound import soundfault
from packedforms.store import Store
from packedforms.walker import walked
from packedforms.worths import misfit
from tests.scripts import Writing, random_frame
from tests.test_compiler import WISHES
from tests.test_paths import SOME, arm, at, field
from tests.test_programs import SAY, YES, get
from tests.test_walker import number
from tests.things import N8, T, box, hole, maybe, nat, record, row, use, variant
from tests.worlds import BOOK, random_worth, wild_plan

ARMS = "abcdefgh"
CHOICE = variant(**{name: T for name in ARMS})
V = field("v")


def arms(names, rows_of_arm):
    return tuple((name, rows_of_arm(number)) for number, name in enumerate(names))


def said(names):
    """Arms that each say another number."""
    return arms(names, lambda each: (("say", number(each)),))


def swaps_in(thing):
    """How many swaps are written in rows."""
    if not isinstance(thing, tuple):
        return 0
    return (thing[:1] == ("swap",)) + sum(swaps_in(inner) for inner in thing)


def long_book():
    """A book whose d is a number behind 4 boxes and 28 uses, and whose z is a row in an x in a row in a y in a row."""
    chain = nat(8)
    book = [("id", ("x",), hole("x")), ("x", (), maybe(row(2, box(CHOICE)))), ("y", (), maybe(box(row(2, use("x"))))),
            ("z", (), maybe(row(2, box(use("y")))))]
    for name in "abcd":
        for each in range(6):
            chain = use("id", chain)
        book.append((name, (), box(chain)))
        chain = use(name)
    return tuple(book)


class PicksAtOnceTest(unittest.TestCase):
    book = long_book()
    kind = use("d")

    def beside(self, frame, rows, worths, due_ends, plan=None):
        program = (frame, rows)
        self.assertIsNone(programfault(self.book, program))
        plan = planned(self.book, frame) if plan is None else plan
        code = compiled(self.book, plan, program)
        self.assertIsNone(codefault(self.book, plan, code))
        # Things are moved, so these picks do ask for their arms at once.
        self.assertGreater(sum(one[0] == "swap" for one in code), swaps_in(rows))
        ends = set()
        for worth in worths:
            store = Store(self.book, plan, room=2048)
            store.fill(worth)
            store.fill(worths[0])
            due = walked(self.book, program, worth, plan=plan, room=2048 - weight(plan, store.image(2)))
            self.assertEqual(run(store, 1, code), due[:4])
            self.assertEqual(store.worth(1), due[4])
            self.assertEqual(store.worth(2), worths[0])
            ends.add(due[1])
        self.assertEqual(ends, due_ends)

    def test_one_number(self):
        for many in (2, 3, 5, 9, 16):
            frame = record(i=self.kind, v=row(many, CHOICE))
            i = get((field("i"),))
            pick = ("pick", (V, at(("sub", ("add", i, i), i))), said(ARMS))
            things = tuple((ARMS[each % 8], True) for each in range(many))
            worths = [(index, things[shift:] + things[:shift]) for index in (*range(many), many, 255)
                      for shift in range(many)]
            self.beside(frame, (pick, SAY), worths, {"done", "row"})

    def test_several_numbers(self):
        frame = record(i=self.kind, j=self.kind, v=row(3, row(2, variant(**{name: N8 for name in ARMS}))))
        things = tuple((name, each) for each, name in enumerate(ARMS))
        worths = [(i, j, tuple(tuple(things[(2 * a + b + shift) % 8] for b in range(2)) for a in range(3)))
                  for i in range(5) for j in range(4) for shift in range(8)]
        for first, second in ("ij", "ji"):
            place = (V, at(get((field(first),))), at(get((field(second),))))
            told = {0: (("put", place, ("h", 7)), ("show", place)), 1: (), 2: (("set", (field("i"),), number(9)), SAY),
                    3: (("swap", (V, at(number(0))), (V, at(number(1)))),), 4: (SAY, SAY),
                    5: (("copy", (V, at(number(2))), (V, at(number(1)))), ("show", ())),
                    6: (("set", place + (arm("g"),), number(1)), ("say", ("rem", number(1), number(0)))),
                    7: (("show", ()),)}
            pick = ("pick", place, arms(ARMS, lambda each: told[each]))
            self.beside(frame, (pick, pick, SAY), worths, {"done", "row", "nought"})

    def test_numbers_beside_short_ones(self):
        frame = record(i=self.kind, k=N8, m=maybe(T), v=row(2, row(3, row(2, CHOICE))))
        i, k = get((field("i"),)), get((field("k"),))
        long = ("rem", ("add", ("add", i, i), i), number(4))
        place = (V, at(k), at(long), at(("sub", number(1), k)))
        pick = ("pick", place, arms(ARMS, lambda each: (("say", number(each)), ("put", (field("m"),), ()))))
        things = tuple((name, True) for name in ARMS) * 2
        worths = [(i, k, (True,), tuple(tuple(things[shift + 3 * a + b:shift + 3 * a + b + 2] for b in range(3))
                                        for a in range(2)))
                  for i in range(6) for k in range(3) for shift in range(8)]
        self.beside(frame, (pick, pick, SAY), worths, {"done", "row"})

    def test_within_one_another(self):
        """A while and a further pick in the rows of arms."""
        frame = record(i=self.kind, k=N8, v=row(2, CHOICE))
        i, k = get((field("i"),)), get((field("k"),))
        place = (V, at(i))
        counting = ("while", ("less", k, number(3)), (("set", (field("k"),), ("add", k, number(1))), ("say", k)))
        inner = ("pick", place, arms(ARMS, lambda each: (("say", number(10 + each)),)))
        told = {1: (counting, inner), 3: (("while", YES, (inner,)),), 4: (inner,)}
        pick = ("pick", place, arms(ARMS, lambda each: told.get(each, (SAY,))))
        worths = [(i, k, ((one, True), (other, False))) for i in range(3) for k in (0, 2, 5) for one in ARMS
                  for other in "bde"]
        self.beside(frame, (pick, SAY), worths, {"done", "row", "dry"})

    def test_a_row_of_one_thing(self):
        frame = record(i=self.kind, v=row(1, row(2, CHOICE)))
        i = get((field("i"),))
        place = (V, at(("div", i, number(2))), at(i))
        worths = [(i, (((one, True), (other, True)),)) for i in range(3) for one in ARMS for other in "ah"]
        self.beside(frame, (("pick", place, said(ARMS)), SAY), worths, {"done", "row"})

    def test_arms_without_rows(self):
        """Whichever arms have no rows, nothing is done where they are there."""
        frame = record(i=self.kind, v=row(2, CHOICE))
        i = get((field("i"),))
        worths = [(i, ((one, True), (ARMS[7 - ARMS.index(one)], True))) for i in range(3) for one in ARMS]
        for empty in ("a", "h", "d", "ah", "adg", "bcd"):
            pairs = arms(ARMS, lambda each: () if ARMS[each] in empty else (("say", number(each)),))
            self.beside(frame, (("pick", (V, at(("add", i, number(0)))), pairs), SAY), worths, {"done", "row"})

    def test_fields_between(self):
        frame = record(i=self.kind, v=row(2, record(p=N8, q=row(3, record(c=CHOICE, d=T)))))
        i = get((field("i"),))
        place = (V, at(("rem", i, number(2))), field("q"), at(("div", i, number(2))), field("c"))
        cells = tuple(((name, True), False) for name in ARMS)
        worths = [(i, tuple((each, (cells * 2)[shift + 3 * each:shift + 3 * each + 3]) for each in range(2)))
                  for i in range(7) for shift in range(8)]
        self.beside(frame, (("pick", place, said(ARMS)), ("show", ())), worths, {"done", "row"})

    def between(self):
        """A frame with arms between its rows, places through these, and worths: not all things have each arm."""
        inner = row(3, CHOICE)
        frame = record(i=self.kind, j=self.kind, v=row(3, variant(x=inner, y=T, z=box(inner))))
        i, j = get((field("i"),)), get((field("j"),))
        cells = tuple((name, True) for name in ARMS) * 2
        places = [(V, at(i), arm(name), at(j)) for name in "xz"]
        worths = []
        for shift in range(8):
            things = (("x", cells[shift:shift + 3]), ("y", True), ("z", cells[shift + 3:shift + 6]))
            worths += [(i, j, things[turn:] + things[:turn]) for i in range(4) for j in range(4) for turn in range(3)]
        return frame, places, worths

    def test_arms_between(self):
        frame, places, worths = self.between()
        worths = random.Random(170).sample(worths, 130)
        for place in places:
            self.beside(frame, (("pick", place, said(ARMS)), ("show", ())), worths, {"done", "row", "arm"})

    def test_somes_and_boxes_between(self):
        """Four rows, each in what another one's thing may have."""
        frame = record(i=self.kind, j=self.kind, v=row(2, use("z")))
        i, j = get((field("i"),)), get((field("j"),))
        place = (V, at(i), SOME, at(j), SOME, at(i), SOME, at(("sub", number(1), j)))
        dice = random.Random(171)
        worths = [(i, j, random_worth(dice, self.book, row(2, use("z")))) for i in range(3) for j in range(3)
                  for each in range(20)]
        self.beside(frame, (("pick", place, said(ARMS)), ("show", ())), worths, {"done", "row", "arm"})

    def test_numbers_that_are_read_of_the_moved_things(self):
        """All numbers are those that were there ahead of the pick, also where things that have them are moved."""
        frame = record(v=row(4, record(n=self.kind, c=CHOICE)))
        first = get((V, at(number(0)), field("n")))
        place = (V, at(get((V, at(("rem", first, number(4))), field("n")))), field("c"))
        dice = random.Random(172)
        worths = [(tuple((dice.choice((0, 1, 2, 3, 3, 4)), (dice.choice(ARMS), True)) for each in range(4)),)
                  for many in range(120)]
        self.beside(frame, (("pick", place, said(ARMS)), ("show", ())), worths, {"done", "row"})
        inner = variant(x=row(2, record(n=self.kind, c=CHOICE)), y=T)
        frame = record(i=self.kind, v=row(2, inner))
        i = get((field("i"),))
        other = get((V, at(("sub", number(1), i)), arm("x"), at(i), field("n")))
        place = (V, at(i), arm("x"), at(other), field("c"))
        cells = [tuple((dice.choice((0, 1, 1, 2)), (dice.choice(ARMS), True)) for each in range(2))
                 for many in range(100)]
        worths = [(dice.randrange(3), tuple(("x", dice.choice(cells)) if dice.random() < 0.8 else ("y", True)
                                            for each in range(2))) for many in range(150)]
        self.beside(frame, (("pick", place, said(ARMS)), ("show", ())), worths, {"done", "row", "arm"})

    def test_which_end_comes_first(self):
        """Step by step: a number is reckoned and looked at, then the arm, and then only the next number is reckoned."""
        frame = record(i=self.kind, j=self.kind, v=row(2, variant(x=row(2, CHOICE), y=T)))
        i, j = get((field("i"),)), get((field("j"),))
        place = (V, at(i), arm("x"), at(("div", j, j)))
        worths = [(i, j, (("x", (("c", True), (name, True))), ("y", False))) for i in range(3) for j in range(2)
                  for name in ARMS]
        self.beside(frame, (("pick", place, said(ARMS)), SAY), worths, {"done", "row", "arm", "nought"})
        program = (frame, (("pick", place, said(ARMS)), SAY))
        plan = planned(self.book, frame)
        for (i, j), end in (((2, 0), "row"), ((1, 0), "arm"), ((0, 0), "nought"), ((0, 1), "done")):
            store = Store(self.book, plan)
            store.fill((i, j) + worths[0][2:])
            self.assertEqual(run(store, 1, compiled(self.book, plan, program))[1], end)
            self.assertEqual(store.worth(1), (i, j) + worths[0][2:])

    def test_under_all_plans(self):
        dice = random.Random(173)
        frame, places, worths = self.between()
        plans = [planned(self.book, frame, **wishes) for wishes in WISHES]
        plans += [plan for plan in [wild_plan(dice, self.book, frame) for each in range(15)] if plan is not None]
        self.assertGreater(len(plans), len(WISHES) + 8)
        for plan in plans:
            place = dice.choice(places)
            inside = [worth for worth in worths if max(worth[:2]) < 3]
            there = [worth for worth in inside if worth[2][worth[0]][0] == place[2][1]]
            others = [worth for worth in inside if worth[2][worth[0]][0] != place[2][1]]
            self.beside(frame, (("pick", place, said(ARMS)), ("show", ())),
                        dice.sample(there, 5) + dice.sample(others, 1) + worths[-1:], {"done", "row", "arm"}, plan)

    def test_nothing_else_is_left_behind(self):
        """The bytes are as they were, blocks lie where they lay, and no byte more is needed than there is."""
        frame, places, worths = self.between()
        plan = planned(self.book, frame, great=16)
        for place in places:
            code = compiled(self.book, plan, (frame, (("pick", place, said(ARMS)),)))
            for worth in worths[::5]:
                store = Store(self.book, plan, room=weight(plan, imaged(self.book, plan, worth)))
                store.fill(worth)
                before = store.twin()
                run(store, 1, code)
                self.assertTrue(store == before)
                self.assertEqual(store.blocks(), before.blocks())
                self.assertIsNone(soundfault(self.book, plan, *store.told()))


class OftenPicking(Writing):
    """Makes programs with many picks at places in rows."""

    def statement(self, deep):
        places = [(shape, kind) for shape, kind in self.choices if any(step[0] == "at" for step in shape)]
        if deep < 3 and places and self.dice.random() < 0.6:
            shape, kind = self.dice.choice(places)
            names = ("none", "some") if kind[0] == "maybe" else [name for name, inner in kind[1]]
            return ("pick", self.place(shape), tuple((name, self.arm_rows(deep)) for name in names))
        return super().statement(deep)

    def arm_rows(self, deep):
        some = (("say", number(self.dice.randrange(1000))),)
        return (some if self.dice.random() < 0.8 else ()) + self.rows(deep + 1, 1)


def in_rows(dice, deep):
    """A kind in which much is a row, and a choice in the end."""
    if deep == 0:
        names = dice.sample(ARMS, dice.choice((3, 4, 5)))
        return variant(**{name: dice.choice((nat(1), nat(3), T)) for name in names})
    word = dice.choice(("row", "row", "row", "variant", "maybe", "record", "box", "use"))
    inner = in_rows(dice, deep - 1)
    if word == "row":
        return row(dice.choice((1, 2, 3, 4)), inner)
    if word == "variant":
        return variant(a=inner, **{name: T for name in dice.sample("bcd", dice.choice((0, 2)))})
    return {"maybe": maybe(inner), "record": record(m=inner, n=nat(2)), "box": box(inner),
            "use": use("pair", inner, T)}[word]


class AnyPickTest(unittest.TestCase):
    """Random programs all of whose picks ask at once, however short they are."""

    def setUp(self):
        patcher = patch("packedforms.compiler.is_shorter_at_once", lambda compiling, place, names: len(names) > 0)
        patcher.start()
        self.addCleanup(patcher.stop)

    def some_frame(self, dice):
        if dice.random() < 0.2:
            return random_frame(dice)
        kinds = {name: row(dice.choice((2, 3, 4)), in_rows(dice, dice.choice((0, 1, 2, 3)))) for name in "pq"}
        frame = record(**kinds, i=nat(2), j=nat(2))
        return frame if kindfault(BOOK, frame) is None else self.some_frame(dice)

    def test_random_programs(self):
        dice = random.Random(174)
        ends, moving = {}, 0
        while sum(ends.values()) < 1000:
            frame = self.some_frame(dice)
            plan = wild_plan(dice, BOOK, frame) if dice.random() < 0.5 else planned(BOOK, frame, **dice.choice(WISHES))
            program = (frame, OftenPicking(dice, BOOK, frame, dice.choice((0.6, 0.9)), 0.9).rows(0, 4))
            if plan is None or programfault(BOOK, program) is not None:
                continue
            code = compiled(BOOK, plan, program)
            self.assertIsNone(codefault(BOOK, plan, code))
            for many in range(3):
                end = self.beside(dice, plan, program, code)
                ends[end] = ends.get(end, 0) + 1
                moving += sum(one[0] == "swap" for one in code) > swaps_in(program[1])
        self.assertGreater(moving, 250)
        self.assertGreaterEqual(set(ends), {"done", "dry", "arm", "nought", "range", "row"})

    def beside(self, dice, plan, program, code):
        """How a run of the code ends, that does what the walk does; None where there is no room for the worth."""
        worth = random_worth(dice, BOOK, program[0], dice.randint(0, 3))
        need = weight(plan, imaged(BOOK, plan, worth)) if misfit(BOOK, program[0], worth) is None else 4096
        room, turns = need + 8 * dice.choice((0, 1, 3)), dice.choice((0, 1, 3, 20, 200))
        if room > 2048:
            return None
        store = Store(BOOK, plan, room=room)
        store.fill(worth)
        due = walked(BOOK, program, worth, turns=turns, plan=plan, room=room)
        self.assertEqual(str(run(store, 1, code, turns=turns)), str(due[:4]))
        self.assertEqual(store.worth(1), due[4])
        self.assertIsNone(soundfault(BOOK, plan, *store.told()))
        return due[1]


if __name__ == "__main__":
    unittest.main()
