"""Code that runs over bytes: H1, H3, H5, and of E6 what it says of runs."""

import random
import unittest

from packedforms.codelook import codefault
from packedforms.compiler import compiled
from packedforms.images import imaged, weight
from packedforms.machine import run
from packedforms.maker import planned
from packedforms.plancheck import planfault
from packedforms.programs import programfault
from packedforms.sound import soundfault
from packedforms.store import Store
from packedforms.views import View
from packedforms.walker import walked
from packedforms.worths import misfit
from tests.scripts import random_frame, random_program
from tests.test_compiler import ALL_ROWS, WISHES
from tests.test_images import FAR_BOOK, FAR_LINK
from tests.test_paths import SOME, arm, at, field
from tests.test_programs import BOOK as LISTS, FRAME, SAY, YES, get
from tests.test_store import NIL, numbers
from tests.test_views import KIND, PLAN, WORTH
from tests.test_walker import CROWD, HEAD, TAIL, WORTH as STATE, crowded, moved, number
from tests.things import (BOXES, LIST, LIST8, N8, NONE, NO_THINGS, T, box, hole, maybe, nat, record, refusal, row, use,
                          variant, whole)
from tests.worlds import BOOK, random_worth, wild_plan

END = ("end",)
FR = ("frame",)
ONE = ("number", 1)
TRUE = ("truth", True)
FALSE = ("truth", False)
# The numbers of the frame's fields, and of the entries of KIND's plan.
N, F, R, V, M, D = range(6)
E_N8, E_F, E_T, E_N16, E_R, E_V, E_B, E_N64, E_M, E_DD, E_D = range(1, 12)
OTHER = WORTH[:3] + (("b", (8, 9)), (), 1)


def to(number):
    return (FR, ("field", 0, number))


class RunTest(unittest.TestCase):
    """Code by hand over a store of two roots; the first is run over."""

    def setUp(self):
        self.store = Store((), PLAN)
        self.store.fill(WORTH)
        self.store.fill(OTHER)

    def told(self, rows, answers=(), end="done", place=(), used=0, left=WORTH, handle=1, **named):
        rows = tuple(rows)
        self.assertIsNone(codefault((), PLAN, rows))
        store = self.store.twin()
        told = run(store, handle, rows, **named)
        self.assertIs(type(told), tuple)
        self.assertEqual(told, (answers, end, place, used))
        self.assertEqual(str(told), str((answers, end, place, used)))
        self.assertEqual(store.worth(handle), left)
        self.assertEqual(str(store.worth(handle)), str(left))
        other = 3 - handle
        self.assertEqual(store.worth(other), self.store.worth(other))
        self.assertIsNone(soundfault((), PLAN, *store.told()))
        self.assertEqual(store.used(), sum(weight(PLAN, store.image(each)) for each in (1, 2)))
        self.assertEqual(store.ends(), (3, 3))

    def says(self, rows, told, truth=False, **named):
        self.told(tuple(rows) + (("say", truth), END), (told,), **named)

    def test_end(self):
        self.told((END,))
        self.told((ONE, TRUE, FR, END))

    def test_numbers_and_truths(self):
        for n in (0, 1, -1, 2 ** 64, -2 ** 64):
            self.says((("number", n),), n)
        self.says((TRUE,), True, True)
        self.says((FALSE,), False, True)
        self.told((ONE, TRUE, ("say", True), ("say", False), END), (True, 1))

    def test_sums(self):
        for word, due in (("add", 4), ("sub", -18), ("mul", -77), ("div", -1), ("rem", 4)):
            self.says((("number", -7), ("number", 11), (word,)), due)
        for one, other in ((7, 2), (-7, 2), (7, -2), (-7, -2), (2 ** 64, -3)):
            self.says((("number", one), ("number", other), ("div",)), one // other)
            self.says((("number", one), ("number", other), ("rem",)), one - other * (one // other))
        self.says((("number", 2 ** 64),) * 3 + (("mul",), ("mul",)), 2 ** 192)

    def test_truths_of_two(self):
        for one, other in ((1, 2), (2, 1), (1, 1), (-1, 0)):
            self.says((("number", one), ("number", other), ("less",)), one < other, True)
            self.says((("number", one), ("number", other), ("like",)), one == other, True)
        for one in (True, False):
            self.says((("truth", one), ("not",)), not one, True)
            for other in (True, False):
                self.says((("truth", one), ("truth", other), ("like",)), one == other, True)

    def test_truths_are_1_and_0(self):
        for one in (True, False):
            self.says((("truth", one), ("not",), ("not",)), one, True)
            self.says((("truth", one), ("not",), ("truth", True), ("like",)), not one, True)
            self.says((("number", 5), ("number", 5 if one else 6), ("like",), ("truth", True), ("like",)), one, True)
            rows = (("truth", one), ("not",), ("unless", 6), ("number", 0), ("say", False), END, ONE, ("say", False),
                    END)
            self.told(rows, (1 if one else 0,))
            rows = (("truth", one), ("not",), *to(M), ("arm", E_M, 1), ("keep", E_T), END)
            self.told(rows, left=WORTH[:4] + ((not one,), 99))

    def test_nought(self):
        for word in ("div", "rem"):
            self.told((ONE, ("number", 0), (word,), END), (), "nought")
            self.told((("turn", (1, 5)), ONE, ("number", 0), (word,), END), (), "nought", (1, 5), 1)

    def test_jumps(self):
        self.told((("jump", 1), END))
        for truth, said in ((True, 1), (False, 2)):
            rows = (("truth", truth), ("unless", 5), ONE, ("say", False), END, ("number", 2), ("say", False), END)
            self.told(rows, (said,))
        self.told((ONE, ONE, ("less",), ("unless", 4), END))

    def test_turns(self):
        turn = ("turn", (1, 0))
        self.told((turn, END), used=1)
        self.told((turn, END), (), "dry", (1, 0), 0, turns=0)
        self.told((turn, ("turn", (1, 7)), END), (), "dry", (1, 7), 1, turns=1)
        self.told((turn, ("turn", (1, 7)), END), used=2, turns=2)
        self.told((turn, ("jump", 0)), (), "dry", (1, 0), 500)
        self.told((turn, ("jump", 0)), (), "dry", (1, 0), 7, turns=7)
        self.told((turn, ONE, ("say", False), ("jump", 0)), (1,) * 3, "dry", (1, 0), 3, turns=3)
        self.told((("turn", ()), ONE, ("number", 0), ("div",), END), (), "nought", (), 1)
        self.told((ONE, ("say", False), ("turn", (-9,)), END), (1,), "dry", (-9,), 0, turns=0)

    def test_the_place_of_the_last_turn(self):
        wrong = (ONE, ("number", 0), ("div",), ("say", False))
        self.told(wrong + (("turn", (1,)), END), (), "nought", (), 0)
        self.told((("turn", (1,)), ("turn", (2,))) + wrong + (("turn", (3,)), END), (), "nought", (2,), 2)

    def test_fields(self):
        self.says((*to(N), ("fetch", E_N8)), 7)
        self.says((*to(F), ("field", E_F, 1), ("fetch", E_N16)), 300)
        self.says((*to(F), ("field", E_F, 0), ("fetch", E_T)), True, True)

    def test_items(self):
        for index in range(3):
            self.says((*to(R), ("number", index), ("item", E_R), ("fetch", E_N8)), index + 1)
        for index in (-1, 3, 2 ** 64, -2 ** 64):
            self.told((*to(R), ("number", index), ("item", E_R), ("show", E_N8), END), (), "row")

    def test_arms(self):
        self.says((*to(V), ("arm", E_V, 0), ("fetch", E_N16)), 5)
        self.told((*to(V), ("arm", E_V, 1), ("show", E_B), END), (), "arm")
        self.told((*to(V), ("arm", E_V, 1), ("show", E_B), END), ((8, 9),), handle=2, left=OTHER)
        self.told((*to(V), ("arm", E_V, 0), ("show", E_N16), END), (), "arm", handle=2, left=OTHER)
        self.says((*to(V), ("arm", E_V, 1), ONE, ("item", E_B), ("fetch", E_N64)), 9, handle=2, left=OTHER)
        self.says((*to(M), ("arm", E_M, 1), ("fetch", E_T)), True, True)
        self.told((*to(M), ("arm", E_M, 1), ("show", E_T), END), (), "arm", handle=2, left=OTHER)

    def test_probes(self):
        for handle, left in ((1, WORTH), (2, OTHER)):
            for number in range(2):
                self.says((*to(V), ("probe", E_V, number)), number == handle - 1, True, handle=handle, left=left)
                self.says((*to(M), ("probe", E_M, number)), number == 2 - handle, True, handle=handle, left=left)

    def test_boxes(self):
        self.says((*to(D), ("box", E_DD), ("box", E_D), ("fetch", E_N8)), 99)
        self.told((*to(D), ("box", E_DD), ("show", E_D), END), (99,))
        self.told((*to(D), ("show", E_DD), END), (99,))

    def test_same(self):
        book = (("flag", (), T),)
        plan = planned(book, record(a=use("flag")))
        store = Store(book, plan)
        store.fill((True,))
        code = (FR, ("field", 0, 0), ("same", 1), ("fetch", 2), ("say", True), FALSE, FR, ("field", 0, 0), ("same", 1),
                ("keep", 2), FR, ("field", 0, 0), ("show", 1), END)
        self.assertEqual(run(store, 1, code), ((True, False), "done", (), 0))
        self.assertEqual(store.worth(1), (False,))

    def test_show(self):
        self.told((FR, ("show", 0), END), (WORTH,))
        for name, entry, due in ((N, E_N8, 7), (F, E_F, (True, 300)), (R, E_R, (1, 2, 3)), (V, E_V, ("a", 5)),
                                 (M, E_M, (True,)), (D, E_DD, 99)):
            self.told((*to(name), ("show", entry), END), (due,))

    def test_keep(self):
        self.told((("number", 200), *to(N), ("keep", E_N8), END), left=(200,) + WORTH[1:])
        self.told((("number", 9), *to(F), ("field", E_F, 1), ("keep", E_N16), END),
                  left=(7, (True, 9)) + WORTH[2:])
        self.told((FALSE, *to(F), ("field", E_F, 0), ("keep", E_T), END), left=(7, (False, 300)) + WORTH[2:])
        self.told((FALSE, *to(M), ("arm", E_M, 1), ("keep", E_T), END), left=WORTH[:4] + ((False,), 99))
        self.told((("number", 0), *to(D), ("box", E_DD), ("box", E_D), ("keep", E_N8), END), left=WORTH[:5] + (0,))
        self.told((("number", 2 ** 64 - 1), *to(V), ("arm", E_V, 1), ONE, ("item", E_B), ("keep", E_N64), END),
                  handle=2, left=OTHER[:3] + (("b", (8, 2 ** 64 - 1)),) + OTHER[4:])

    def test_range(self):
        for n, fits in ((0, True), (255, True), (256, False), (-1, False), (2 ** 64, False)):
            left = (n,) + WORTH[1:] if fits else WORTH
            self.told((("number", n), *to(N), ("keep", E_N8), END), (), "done" if fits else "range", left=left)
        plan = planned((), record(i=whole(8)))
        for n, fits in ((-128, True), (127, True), (-129, False), (128, False)):
            store = Store((), plan)
            store.fill((5,))
            code = (("turn", (3,)), ("number", n), FR, ("field", 0, 0), ("keep", 1), FR, ("field", 0, 0), ("fetch", 1),
                    ("say", False), END)
            due = ((n,), "done", (), 1) if fits else ((), "range", (3,), 1)
            self.assertEqual(run(store, 1, code), due)
            self.assertEqual(store.worth(1), (n,) if fits else (5,))

    def put(self, entry, worth):
        return ("put", entry, imaged((), PLAN, worth, entry=entry))

    def test_put(self):
        self.told((*to(N), self.put(E_N8, 0), END), left=(0,) + WORTH[1:])
        self.told((*to(F), self.put(E_F, (False, 1)), END), left=(7, (False, 1)) + WORTH[2:])
        self.told((*to(V), self.put(E_V, ("b", (3, 4))), END), left=WORTH[:3] + (("b", (3, 4)),) + WORTH[4:])
        self.told((*to(V), self.put(E_V, ("a", 6)), END), left=OTHER[:3] + (("a", 6),) + OTHER[4:], handle=2)
        self.told((*to(M), self.put(E_M, ()), END), left=WORTH[:4] + ((), 99))
        self.told((*to(D), self.put(E_DD, 5), END), left=WORTH[:5] + (5,))
        self.told((*to(D), ("box", E_DD), self.put(E_D, 5), END), left=WORTH[:5] + (5,))
        self.told((FR, self.put(0, OTHER), FR, ("show", 0), END), (OTHER,), left=OTHER)

    def test_copy(self):
        # First the place to read from, then the place.
        self.told((*to(N), *to(R), ONE, ("item", E_R), ("copy", E_N8), END), left=WORTH[:2] + ((1, 7, 3),) + WORTH[3:])
        self.told((*to(R), ONE, ("item", E_R), *to(N), ("copy", E_N8), END), left=(2,) + WORTH[1:])
        self.told((*to(D), *to(D), ("copy", E_DD), END))
        self.told((FR, FR, ("copy", 0), END))

    def test_swap(self):
        self.told((*to(N), *to(R), ONE, ("item", E_R), ("swap", E_N8), END),
                  left=(2,) + WORTH[1:2] + ((1, 7, 3),) + WORTH[3:])
        self.told((*to(D), ("box", E_DD), ("box", E_D), *to(N), ("swap", E_N8), END), left=(99,) + WORTH[1:5] + (7,))
        self.told((*to(D), *to(D), ("swap", E_DD), END))
        self.told((FR, FR, ("swap", 0), END))

    def test_what_was_done_ahead_of_an_end_stays(self):
        rows = (("turn", (1,)), ("number", 9), *to(N), ("keep", E_N8), *to(M), self.put(E_M, ()), ONE, ("say", False),
                ("turn", (2,)), ("number", 256), *to(N), ("keep", E_N8), END)
        self.told(rows, (1,), "range", (2,), 2, (9,) + WORTH[1:4] + ((), 99))

    def test_refusals(self):
        bad = (("add",), END)
        things = [thing for thing in NO_THINGS + (3, "1") if thing is True or thing != 1]
        before = self.store.twin()
        for many, thing in enumerate(things, start=1):
            for code in ((END,), bad):
                told = refusal(run, self.store, thing, code)
                self.assertEqual(told, ("NoHandle", thing))
                self.assertIs(type(told[1]), type(thing))
            self.assertEqual(self.store.ends(), (2 + 2 * many, 2 + 2 * many))
        for code in NO_THINGS + (bad, (FR, ("fetch", 0), END), (("turn", ()),)):
            deeds = self.store.ends()[0]
            self.assertEqual(refusal(run, self.store, 1, code), ("BadCode",) + codefault((), PLAN, code))
            self.assertEqual(self.store.ends(), (deeds + 1, deeds + 1))
        self.assertTrue(self.store == before)
        self.assertEqual(self.store.blocks(), before.blocks())
        self.store.free(1)
        self.assertEqual(refusal(run, self.store, 1, (END,)), ("NoHandle", 1))

    def test_the_store_goes_on(self):
        code = (*to(V), self.put(E_V, ("b", (3, 4))), END)
        view = View(self.store, 1, (field("v"), arm("b"), at(1)))
        run(self.store, 1, code)
        self.assertEqual(view.read(), 4)
        view.write(44)
        self.assertEqual(self.store.worth(1)[3], ("b", (3, 44)))
        self.assertEqual(self.store.fill(WORTH), 3)
        self.store.free(1)
        self.store.together()
        self.assertEqual((self.store.worth(2), self.store.worth(3)), (OTHER, WORTH))
        self.assertEqual(self.store.ends(), (7, 7))


class EndsTest(unittest.TestCase):
    """over, deep and full, by hand and compiled, beside the walk."""

    def both(self, book, frame, rows, worth, plan=None, room=512, others=(), end="done", **named):
        """Walks and runs a program; tells the worth that is left."""
        self.assertIsNone(programfault(book, (frame, rows)))
        plan = planned(book, frame) if plan is None else plan
        store = Store(book, plan, room=room)
        for other in others[:1]:
            store.fill(other)
        handle = store.fill(worth)
        for other in others[1:]:
            store.fill(other)
        rest = room - sum(weight(plan, imaged(book, plan, other)) for other in others)
        due = walked(book, (frame, rows), worth, plan=plan, room=rest, **named)
        code = compiled(book, plan, (frame, rows))
        self.assertEqual(run(store, handle, code, **named), due[:4])
        self.assertEqual(due[1], end)
        self.assertEqual(store.worth(handle), due[4])
        self.assertIsNone(soundfault(book, plan, *store.told()))
        rows = [each for each, address in store.told()[2]]
        self.assertEqual(store.used(), sum(weight(plan, store.image(each)) for each in rows))
        for each, other in zip([each for each in rows if each != handle], others):
            self.assertEqual(store.worth(each), other)
        return due[4]

    lists = record(a=LIST8, b=LIST8)
    a, b = (field("a"),), (field("b"),)

    def test_over(self):
        for one, other in ((self.a, self.a + TAIL), (self.a + TAIL + TAIL, self.a), (self.a + TAIL, self.a + TAIL * 3)):
            left = self.both(LIST, self.lists, (("swap", one, other),), (numbers(1, 2, 3), NIL), end="over")
            self.assertEqual(left, (numbers(1, 2, 3), NIL))
        left = self.both(LIST, self.lists, (("swap", self.a + TAIL, self.b),), (numbers(1, 2), numbers(3, 4, 5)))
        self.assertEqual(left, (numbers(1, 3, 4, 5), numbers(2)))
        frame = record(t=use("tree"))
        t, left, right = (field("t"),), (arm("fork"), field("l")), (arm("fork"), field("r"))
        worth = (("fork", (("fork", (("leaf", 1), ("leaf", 2))), ("leaf", 3))),)
        for one, other, end in ((t, t + left + right, "over"), (t + left, t + right, "done"),
                                (t + left + left, t + right, "done"), (t + left + left, t + left, "over")):
            self.both(BOXES, frame, (("swap", one, other),), worth, end=end)

    def test_over_by_hand_at_a_box(self):
        """Both places are those of pointers, the one behind the other."""
        frame = record(l=box(LIST8))
        plan = planned(LIST, frame)
        point, same, pick, cell = 1, 2, 3, 5
        self.assertEqual([plan[entry][1][0] for entry in (point, same, pick, cell)],
                         ["point", "same", "pick", "fields"])
        tail = (("box", point), ("same", same), ("arm", pick, 1), ("field", cell, 1))
        outer = (FR, ("field", 0, 0))
        store = Store(LIST, plan)
        store.fill((numbers(1, 2),))
        for one, other in ((outer, outer + tail), (outer + tail, outer), (outer + tail, outer + tail + tail)):
            self.assertEqual(run(store, 1, (("turn", (4,)),) + one + other + (("swap", point), END)),
                             ((), "over", (4,), 1))
        self.assertEqual(store.worth(1), (numbers(1, 2),))
        self.assertEqual(run(store, 1, outer + tail + outer + (("copy", point), END))[1], "done")
        self.assertEqual(store.worth(1), (numbers(2),))

    def test_deep(self):
        whole_list = numbers(*range(12))
        for rows, worth, end in (((("copy", self.b + TAIL, self.a),), (whole_list, numbers(1)), "deep"),
                                 ((("copy", self.b, self.a),), (whole_list, numbers(1)), "done"),
                                 ((("copy", self.a + TAIL, self.a),), (whole_list, NIL), "deep"),
                                 ((("copy", self.a + TAIL, self.a),), (numbers(*range(11)), NIL), "done"),
                                 ((("swap", self.b + TAIL, self.a),), (whole_list, numbers(1)), "deep"),
                                 ((("swap", self.a, self.b + TAIL),), (whole_list, numbers(1)), "deep"),
                                 ((("swap", self.b + TAIL, self.a + TAIL),), (whole_list, numbers(1)), "done"),
                                 ((("while", YES, (("copy", self.a + TAIL, self.a),)),), (numbers(1, 2), NIL), "deep")):
            self.both(LIST, self.lists, rows, worth, end=end)

    def test_deep_by_a_put(self):
        book = LIST + (("four", ("a",), box(hole("a"), 4)), ("one", ("a",), box(hole("a"))))
        frame = record(c=use("four", use("four", use("one", LIST8))))
        c = (field("c"),)
        for place, worth, put, end in ((c, NIL, numbers(1, 2, 3), "done"), (c, NIL, numbers(1, 2, 3, 4), "deep"),
                                       (c + TAIL, numbers(0), numbers(1, 2), "done"),
                                       (c + TAIL, numbers(0), numbers(1, 2, 3), "deep")):
            self.both(book, frame, (("put", place, put),), (worth,), end=end)

    def test_deep_by_parts(self):
        for names, end in (("tuv", "done"), ("tuvw", "deep")):
            worth = ((CROWD,), (), (True,) * 15) + (True,) * len(names)
            self.both((), crowded(names), (("copy", (field("b"),), (field("a"),)),), worth, room=2048, end=end)
            self.both((), crowded(names), (("swap", (field("b"),), (field("a"),)),), worth, room=2048)
            self.both((), crowded(names), (("put", (field("b"),), ()), ("put", (field("a"),), ())), worth, room=2048)

    def test_deep_by_one_part(self):
        for names, many, end in (("t", 1, "deep"), ("", 1, "done"), ("", 2, "deep")):
            kind = ("record", crowded(names)[1] + (("m", maybe(T)), ("n", maybe(T))))
            # 999 parts, and one more for the name.
            worth = ((CROWD,), (CROWD,), (True,) * 15) + (True,) * len(names) + ((), ())
            rows = tuple(("put", (field(name),), (True,)) for name in "mn"[:many])
            self.both((), kind, rows, worth, room=2048, end=end)

    def test_deep_ahead_of_full(self):
        worth = (numbers(*range(12)), numbers(1))
        plan = planned(LIST, self.lists)
        room = weight(plan, imaged(LIST, plan, worth))
        self.both(LIST, self.lists, (("copy", self.b + TAIL, self.a),), worth, plan, room, end="deep")
        self.both(LIST, self.lists, (("copy", self.b, self.a),), worth, plan, room, end="full")

    def test_picks_at_places_that_end(self):
        """Whatever rows the arms have, the place is gone to."""
        frame = record(r=row(2, variant(a=T)), s=row(2, variant(a=T, b=T)), m=row(2, maybe(T)), n=N8)
        index = (at(get((field("n"),))),)
        for n, end in ((0, "done"), (1, "done"), (2, "row"), (255, "row")):
            worth = ((("a", True),) * 2, (("a", True), ("b", True)), ((), (True,)), n)
            for inner in ((), (SAY,)):
                for place, names in ((field("r"), "a"), (field("s"), "ab"), (field("m"), ("none", "some"))):
                    for filled in range(len(names) + 1):
                        pairs = tuple((name, inner if number < filled else ()) for number, name in enumerate(names))
                        self.both((), frame, (("pick", (place,) + index, pairs), SAY), worth, end=end)
                        self.both((), frame, (("pick", (place,) + index, pairs[:-1] + ((names[-1], inner),)),), worth,
                                  end=end)

    def test_full(self):
        worth = (numbers(1, 2), NIL)
        plan = planned(LIST, self.lists)
        need = weight(plan, imaged(LIST, plan, worth))
        for more in (0, 8, 16, 24):
            for others in ((), ((NIL, NIL),), ((NIL, NIL), (numbers(5), numbers(6)))):
                room = need + more + sum(weight(plan, imaged(LIST, plan, other)) for other in others)
                for many in (1, 2, 3):
                    rows = (SAY, ("put", self.b, numbers(*range(many))), SAY)
                    self.both(LIST, self.lists, rows, worth, plan, room, others, "done" if 8 * many <= more else "full")
                rows = (("put", self.a, NIL), ("put", self.b, numbers(1, 2)), ("swap", self.a, self.b))
                self.both(LIST, self.lists, rows, worth, plan, room, others)
                self.both(LIST, self.lists, (("copy", self.b, self.a),), worth, plan, room, others,
                          "done" if more >= 16 else "full")

    def test_room_only_once_all_is_moved_together(self):
        frame = record(n=N8, v=variant(small=NONE, wide=box(row(3, nat(64))), two=record(a=box(T), b=box(T))))
        plan = planned((), frame)
        v = (field("v"),)
        for put, after in ((("wide", (1, 2, 3)), "done"), (("two", (True, False)), "done")):
            store = Store((), plan, room=64)
            for each in range(8):
                store.fill((each, ("small", ())))
            for handle in (1, 4, 6, 7):
                store.free(handle)
            code = compiled((), plan, (frame, (("put", v, put), ("set", (field("n"),), number(77)), ("show", ()))))
            self.assertEqual(run(store, 3, code), (((77, put),), after, (), 3))
            self.assertEqual([store.worth(handle) for handle in (2, 3, 5, 8)],
                             [(1, ("small", ())), (77, put), (4, ("small", ())), (7, ("small", ()))])
            self.assertIsNone(soundfault((), plan, *store.told()))
            self.assertEqual(run(store, 5, code)[1], "full" if put[0] == "wide" else "done")

    def test_far_parts(self):
        frame = record(a=use("link"), b=use("link"))
        plan = ((frame, ("fields", 32, ((0, 1, False), (16, 1, True)))),)
        plan += tuple((kind, moved(form)) for kind, form in FAR_LINK)
        self.assertIsNone(planfault(FAR_BOOK, plan))
        a, b, more = (field("a"),), (field("b"),), (SOME, field("more"))
        worth = (((5, ((6, ()),)),), ())
        rows = (("copy", b, a + more), ("show", b), ("put", a, ((5, ()),)), ("swap", a, b), ("show", a + more),
                ("set", a + (SOME, field("n")), number(9)), ("show", ()),
                ("pick", a + more, (("none", (("say", number(1)),)), ("some", (("show", a),)))))
        for room in range(16, 80, 8):
            need = weight(plan, imaged(FAR_BOOK, plan, worth))
            if room >= need:
                self.both(FAR_BOOK, frame, rows, worth, plan, room, end="done" if room >= need + 16 else "full")
        left = self.both(FAR_BOOK, frame, rows, worth, plan)
        self.assertEqual(left, (((9, ()),), ((5, ()),)))


class BesideTheWalkTest(unittest.TestCase):
    """H5: run of compiled code against walked."""

    def beside(self, dice, book, plan, program, worths, room, turns):
        frame = program[0]
        store = Store(book, plan, room=room)
        for worth in worths:
            store.fill(worth)
        handle = dice.randint(1, len(worths))
        others = [each for each in range(1, len(worths) + 1) if each != handle]
        if others and dice.random() < 0.4:
            gone = others.pop(dice.randrange(len(others)))
            store.free(gone)
        rest = room - sum(weight(plan, store.image(each)) for each in others)
        deeds = store.ends()[0]
        worth = worths[handle - 1]
        due = walked(book, program, worth, turns=turns, plan=plan, room=rest)
        code = compiled(book, plan, program)
        told = run(store, handle, code, turns=turns)
        self.assertEqual(told, due[:4])
        self.assertEqual(str(told[0]), str(due[0]))
        self.assertEqual(store.worth(handle), due[4])
        self.assertIsNone(misfit(book, frame, due[4]))
        for each in others:
            self.assertEqual(store.worth(each), worths[each - 1])
        self.assertIsNone(soundfault(book, plan, *store.told()))
        self.assertEqual(store.used(), sum(weight(plan, store.image(each)) for each in others + [handle]))
        self.assertEqual(store.ends(), (deeds + 1, deeds + 1))
        return due[1]

    def test_all_statements_under_plans_of_every_wish(self):
        dice = random.Random(111)
        states = (STATE, STATE[:5] + (("c", ()), (), numbers(7)), (8,) + STATE[1:5] + (("b", True), (4,), NIL))
        for wishes in WISHES:
            plan = planned(LISTS, FRAME, **wishes)
            for first in range(len(ALL_ROWS)):
                program = (FRAME, ALL_ROWS[first:] + ALL_ROWS[:first])
                self.beside(dice, LISTS, plan, program, states[first % 3:] + states[:first % 3], 512,
                            dice.choice((500, 500, 9)))

    def test_random_programs(self):
        dice = random.Random(112)
        ends = {}
        frames = (record(a=LIST8, b=LIST8, n=N8), record(t=use("tree"), u=use("tree"), n=N8),
                  record(r=row(3, use("tree")), s=box(row(3, use("tree")))),
                  record(c=use("chain"), d=use("chain"), r=row(4, nat(4)), i=nat(3)),
                  record(v=variant(two=box(row(2, nat(64))), five=box(row(5, nat(64))), nine=box(row(9, nat(64)))),
                         w=variant(two=box(row(2, nat(64))), five=box(row(5, nat(64))), nine=box(row(9, nat(64)))),
                         i=N8))
        while sum(ends.values()) < 700:
            frame = dice.choice(frames) if dice.random() < 0.7 else random_frame(dice)
            plan = wild_plan(dice, BOOK, frame) if dice.random() < 0.5 else planned(BOOK, frame, **dice.choice(WISHES))
            worths = [random_worth(dice, BOOK, frame, dice.randint(0, 4)) for each in range(3)]
            if plan is None or any(misfit(BOOK, frame, worth) is not None for worth in worths):
                continue
            need = sum(weight(plan, imaged(BOOK, plan, worth)) for worth in worths)
            room = need + 8 * dice.choice((0, 0, 1, 2, 5, 60))
            if room > 2048:
                continue
            program = random_program(dice, BOOK, frame, dice.choice((0.8, 0.95, 1)), far=dice.choice((0.4, 0.6, 0.9)))
            end = self.beside(dice, BOOK, plan, program, worths, room, dice.choice((0, 1, 3, 20, 100)))
            ends[end] = ends.get(end, 0) + 1
        self.assertGreaterEqual(set(ends), {"done", "dry", "arm", "nought", "range", "full"})

    def test_500_turns(self):
        n = (field("n"),)
        frame = record(n=nat(16), l=LIST8)
        plan = planned(LIST, frame)
        program = (frame, (("while", ("less", get(n), number(166)), (("set", n, ("add", get(n), number(1))),
                                                                     ("say", get(n)))),))
        for turns in (0, 1, 2, 3, 4, 498, 499, 500):
            dice = random.Random(turns)
            self.beside(dice, LIST, plan, program, [(0, NIL)], 64, turns)
        store = Store(LIST, plan)
        store.fill((0, NIL))
        self.assertEqual(run(store, 1, compiled(LIST, plan, program))[1:], ("done", (), 499))
        endless = (frame, (("while", YES, ()),))
        self.assertEqual(run(store, 1, compiled(LIST, plan, endless)), ((), "dry", (1, 0), 500))


class Scribe:
    """Writes code that codefault lets by: at each row one of those whose words fit the stacks."""

    def __init__(self, dice, book, plan):
        self.dice, self.book, self.plan = dice, book, plan
        self.rows, self.sorts, self.places = [], [], []

    def number(self):
        return ("number", self.dice.choice((0, 1, 2, -1, 255, 7, 2 ** 64)))

    def push(self):
        one = self.dice.choice((self.number(), self.number(), ("truth", self.dice.random() < 0.5)))
        self.sorts.append(one[0])
        self.rows.append(one)

    def frame(self):
        self.rows.append(FR)
        self.places.append(0)

    def pops(self):
        """What can be done with the top of the numbers."""
        if self.sorts[-2:] == ["number", "number"]:
            word = self.dice.choice(("add", "sub", "mul", "div", "rem", "less", "like", "add", "sub", "mul"))
            self.sorts[-2:] = ["truth" if word in ("less", "like") else "number"]
            self.rows.append((word,))
        elif self.sorts:
            self.rows.append(("say", self.sorts.pop() == "truth"))

    def goes(self):
        """What can be done with the top place."""
        entry = self.places.pop()
        kind, form = self.plan[entry]
        word = form[0]
        deeds = ["show"]
        if word == "slot":
            deeds += ["fetch", "keep"]
        if not self.places:
            deeds += ["put"] * 2
        if self.places == [entry]:
            deeds += ["copy", "swap"] * 4
        if word in ("same", "point", "run", "pick", "fields"):
            deeds += ["in"] * 6
        deed = self.dice.choice(deeds)
        if deed == "in" and not (word == "fields" and not form[2]):
            self.enters(entry, kind, form)
        elif deed == "fetch":
            self.sorts.append("truth" if kind[0] == "truth" else "number")
            self.rows.append(("fetch", entry))
        elif deed == "keep":
            self.keeps(entry, kind)
        elif deed == "put" and self.puts(entry, kind):
            pass
        elif deed in ("copy", "swap"):
            self.places.pop()
            self.rows.append((deed, entry))
        else:
            self.rows.append(("show", entry))

    def keeps(self, entry, kind):
        sort = "truth" if kind[0] == "truth" else "number"
        if self.sorts and self.sorts[-1] == sort:
            self.sorts.pop()
        else:
            self.rows.append(("truth", True) if sort == "truth" else self.number())
        self.rows.append(("keep", entry))

    def puts(self, entry, kind):
        try:
            worth = random_worth(self.dice, self.book, kind, 2)
        except ValueError:
            return False
        if misfit(self.book, kind, worth) is not None:
            return False
        self.rows.append(("put", entry, imaged(self.book, self.plan, worth, entry=entry)))
        return True

    def enters(self, entry, kind, form):
        word = form[0]
        if word in ("same", "point"):
            self.rows.append(("same" if word == "same" else "box", entry))
            self.places.append(form[1])
        elif word == "run":
            self.rows += [("number", self.dice.randrange(kind[1])), ("item", entry)]
            self.places.append(form[2])
        elif word == "fields":
            place = self.dice.randrange(len(form[2]))
            self.rows.append(("field", entry, place))
            self.places.append(form[2][place][1])
        else:
            self.arms(entry, form)

    def arms(self, entry, form):
        """Goes into an arm only where it is there, or just asks."""
        arms = [place for place, one in enumerate(form[5]) if one[2] != -1]
        place = self.dice.choice(arms)
        if self.dice.random() < 0.3:
            self.rows.append(("probe", entry, place))
            self.sorts.append("truth")
        else:
            self.rows.append(("arm", entry, place))
            self.places.append(form[5][place][2])

    def back(self):
        """A turn, and a way back onto it from further down, as long as the stacks are alike."""
        start, sorts, places = len(self.rows), list(self.sorts), list(self.places)
        self.rows.append(("turn", (start,)))
        self.write(self.dice.randrange(4))
        while self.sorts != sorts and len(self.sorts) > len(sorts):
            self.rows.append(("say", self.sorts.pop() == "truth"))
        while len(self.places) > len(places):
            self.rows.append(("show", self.places.pop()))
        if self.sorts == sorts and self.places == places:
            self.rows += [("truth", self.dice.random() < 0.5), ("unless", start)]

    def write(self, many):
        for each in range(many):
            deeds = (self.push, self.frame, self.pops, self.back) + (self.place,) * 4
            self.dice.choice(deeds)()

    def place(self):
        if self.places:
            self.goes()
        else:
            self.frame()


class AnyCodeTest(unittest.TestCase):
    """H3: code made by anybody that codefault lets by."""

    def test_random_code(self):
        dice = random.Random(113)
        ends = {}
        frames = (record(a=LIST8, b=LIST8, n=N8), record(t=use("tree"), u=use("tree"), n=N8), KIND,
                  record(l=box(LIST8), m=box(LIST8)))
        while sum(ends.values()) < 500:
            kind = dice.choice(frames) if dice.random() < 0.6 else random_frame(dice)
            plan = wild_plan(dice, BOOK, kind)
            worths = [random_worth(dice, BOOK, kind, dice.randint(0, 4)) for each in range(2)]
            if plan is None or any(misfit(BOOK, kind, worth) is not None for worth in worths):
                continue
            need = sum(weight(plan, imaged(BOOK, plan, worth)) for worth in worths)
            if need > 2000:
                continue
            store = Store(BOOK, plan, room=need + 8 * dice.choice((0, 2, 6)))
            for worth in worths:
                store.fill(worth)
            scribe = Scribe(dice, BOOK, plan)
            scribe.write(dice.choice((5, 10, 30)))
            code = tuple(scribe.rows) + (END,)
            self.assertIsNone(codefault(BOOK, plan, code))
            before = store.worth(1)
            answers, end, place, used = run(store, 1, code, turns=dice.choice((0, 5, 50)))
            ends[end] = ends.get(end, 0) + 1
            self.assertIn(end, ("done", "dry", "nought", "row", "arm", "range", "over", "deep", "full"))
            self.assertEqual(store.worth(2), worths[1])
            self.assertIsNone(soundfault(BOOK, plan, *store.told()))
            self.assertIsNone(misfit(BOOK, kind, store.worth(1)))
            self.assertEqual(store.used(), sum(weight(plan, store.image(each)) for each in (1, 2)))
            if not any(one[0] in ("keep", "put", "copy", "swap") for one in code):
                self.assertEqual(store.worth(1), before)
        self.assertGreaterEqual(set(ends), {"done", "dry", "arm", "range", "full"})

    def test_bent_code(self):
        """Rows of compiled code taken out, put in twice or changed for others: what is let by isn't stuck."""
        dice = random.Random(114)
        plan = planned(LISTS, FRAME)
        code = compiled(LISTS, plan, (FRAME, ALL_ROWS))
        let_by = 0
        for each in range(3000):
            rows = list(code)
            for change in range(dice.choice((1, 1, 2))):
                place, other = dice.randrange(len(rows)), dice.randrange(len(rows))
                rows[place:place + dice.randint(0, 1)] = [rows[other]] * dice.randint(0, 1)
            if codefault(LISTS, plan, tuple(rows)) is None:
                let_by += 1
                store = Store(LISTS, plan)
                store.fill(STATE)
                store.fill(STATE)
                run(store, 1, tuple(rows))
                self.assertIsNone(soundfault(LISTS, plan, *store.told()))
                self.assertEqual(store.worth(2), STATE)
        self.assertGreater(let_by, 100)


if __name__ == "__main__":
    unittest.main()
