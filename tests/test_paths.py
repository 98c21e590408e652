"""Paths, parts and meetings: F1, F2, F3."""

import random
import unittest

from packedforms.books import body
from packedforms.errors import BadPath, OutOfRow, WrongArm
from packedforms.paths import MOST_STEPS, meeting, part, path_end, replaced
from packedforms.worths import misfit
from tests.things import (BOXES, LIST, LIST8, N8, N16, NONE, NO_THINGS, PARTS_1000, T, THIRTEEN, TWELVE, box, deep,
                          maybe,
                          record, refusal, row, use, variant)
from tests.worlds import BOOK, random_kind, random_worth

SOME = ("some",)


def field(name):
    return ("field", name)


def at(number):
    return ("at", number)


def arm(name):
    return ("arm", name)


KIND = record(n=N8, r=row(3, record(x=T, y=N16)), v=variant(a=maybe(N8), b=NONE), m=maybe(row(2, T)))
WORTH = (5, ((True, 1), (False, 2), (True, 3)), ("a", (9,)), ((True, False),))


class PathEndTest(unittest.TestCase):
    def told(self, path, kind, root=KIND, book=()):
        self.assertEqual(path_end(book, root, path), kind)

    def bad(self, path, step, root=KIND, book=()):
        self.assertEqual(refusal(path_end, book, root, path), ("BadPath", step))

    def test_constant(self):
        self.assertEqual(MOST_STEPS, 12)

    def test_steps(self):
        self.told((), KIND)
        self.told((field("n"),), N8)
        self.told((field("r"),), KIND[1][1][1])
        self.told((field("r"), at(0)), record(x=T, y=N16))
        self.told((field("r"), at(2), field("y")), N16)
        self.told((field("v"), arm("a")), maybe(N8))
        self.told((field("v"), arm("a"), SOME), N8)
        self.told((field("v"), arm("b")), NONE)
        self.told((field("m"), SOME, at(1)), T)

    def test_at_steps_of_any_whole_number(self):
        for number in (0, 2, 3, -1, 10 ** 400, -10 ** 400):
            self.told((field("r"), at(number)), record(x=T, y=N16))
            self.told((field("r"), at(number), field("x")), T)

    def test_no_tuples_and_too_many_things(self):
        for path in (None, True, 0, "", "ab", 10 ** 400):
            self.bad(path, -1)
        chain = use("chain")
        self.told((SOME,) * 12, maybe(box(chain)), chain, BOXES)
        self.bad((SOME,) * 13, -1, chain, BOXES)
        self.bad((None,) * 13, -1)
        self.bad((None,) * 12, 0)

    def test_things_that_are_no_steps(self):
        for thing in NO_THINGS + (("field",), ("field", "n", 0), ("field", None), ("field", True), ("field", ("n",)),
                                  ("at",), ("at", 0, 0), ("at", True), ("at", None), ("at", "0"), ("some", 0), "some",
                                  ("Some",), ("none",), ("arm",), ("arm", 0), (("field",), "n"), ("field", deep(270)),
                                  ("n", "field"), (True, "n")):
            self.bad((thing,), 0)
            self.bad((field("r"), thing), 1)
            self.bad((field("v"), thing), 1)
            self.bad((field("m"), thing), 1)
            self.bad((field("r"), at(1), thing, field("y")), 2)
            self.bad((field("n"), thing), 1)

    def test_truths_are_no_numbers(self):
        for thing in (True, False):
            self.bad((field("r"), at(thing)), 1)

    def test_steps_that_do_not_fit(self):
        steps = {"record": field("x"), "row": at(0), "variant": arm("x"), "maybe": SOME}
        kinds = {"record": record(x=T), "row": row(2, T), "variant": variant(x=T), "maybe": maybe(T)}
        for word, kind in kinds.items():
            for other, step in steps.items():
                if word == other:
                    self.told((step,), T, kind)
                else:
                    self.bad((step,), 0, kind)
                self.bad((steps[word], step), 1, kind)
        for kind in (T, N8, ("int", 5), NONE):
            for step in steps.values():
                self.bad((step,), 0, kind)

    def test_names_that_are_not_there(self):
        for name in ("x", "", "nn", "N", "r ", "v"):
            if name != "v":
                self.bad((field(name),), 0)
            self.bad((field("v"), arm(name)), 1)
            self.bad((field(name + "z"), None), 0)

    def test_the_first_wrong_step(self):
        self.bad((field("n"), field("z"), None), 1)
        self.bad((field("z"), None), 0)
        self.bad((field("m"), at(0), None), 1)

    def test_uses_and_boxes_are_seen_through(self):
        inner = variant(nil=NONE, cons=record(head=N8, tail=box(LIST8)))
        self.told((), inner, LIST8, LIST)
        self.told((), inner, box(box(LIST8)), LIST)
        self.told((arm("cons"), field("tail")), inner, LIST8, LIST)
        self.told((arm("cons"), field("tail"), arm("cons"), field("head")), N8, box(LIST8), LIST)
        self.told((), T, TWELVE, BOXES)
        self.told((at(0),), T, row(2, TWELVE), BOXES)
        self.bad((field("a"),), 0, row(2, TWELVE), BOXES)

    def test_thirteen_boxes(self):
        self.bad((), 0, THIRTEEN, BOXES)
        self.bad((None,), 0, THIRTEEN, BOXES)
        self.bad((at(0),), 1, row(2, THIRTEEN), BOXES)
        self.bad((at(0), None), 1, row(2, THIRTEEN), BOXES)
        self.told((), row(2, THIRTEEN), row(2, THIRTEEN), BOXES)
        book = BOXES + (("four", (), box(T, 4)), ("five", (), box(T, 5)))
        self.told((at(0),), T, box(row(2, use("one", use("six", use("four"))))), book)
        self.bad((at(0),), 1, box(row(2, use("one", use("six", use("five"))))), book)

    def test_boxes_on_the_whole_way(self):
        tail = (arm("cons"), field("tail"))
        inner = variant(nil=NONE, cons=record(head=N8, tail=box(use("ls"))))
        book = BOXES + (("ls", (), inner),)
        six = use("six", use("six", use("ls")))
        self.told((), inner, six, book)
        self.told((arm("cons"),), inner[1][1][1], six, book)
        self.bad(tail, 2, six, book)
        self.bad(tail + tail, 2, six, book)
        seven = use("six", use("one", use("ls")))
        self.told(tail * 5, inner, seven, book)
        self.bad(tail * 6, 12, seven, book)
        self.told(tail * 6, inner, use("six", use("ls")), book)
        chain = use("chain")
        self.told((SOME,) * 12, maybe(box(chain)), chain, BOXES)
        self.bad((SOME,) * 12, 12, box(chain), BOXES)
        self.bad((SOME,) * 12, 11, box(box(chain)), BOXES)

    def test_kinds_of_any_making(self):
        dice = random.Random(41)
        for each in range(300):
            kind = random_kind(dice)
            path, here = random_path(dice, BOOK, kind)
            self.told(path, here, kind, BOOK)


def seen(book, kind):
    while kind[0] in ("use", "box"):
        kind = kind[1] if kind[0] == "box" else body(book, kind)
    return kind


def random_path(dice, book, kind, most=5):
    """A path that fits, and the kind at its end."""
    path, here = (), seen(book, kind)
    while len(path) < most and dice.random() < 0.85:
        if here[0] in ("record", "variant") and here[1]:
            name, inner = dice.choice(here[1])
            step = ("field" if here[0] == "record" else "arm", name)
        elif here[0] == "row":
            step, inner = at(dice.randrange(here[1])), here[2]
        elif here[0] == "maybe":
            step, inner = SOME, here[1]
        else:
            break
        path, here = path + (step,), seen(book, inner)
    return path, here


class PartTest(unittest.TestCase):
    def told(self, path, worth, kind=KIND, whole=WORTH, book=()):
        told = part(book, kind, whole, path)
        self.assertEqual(told, worth)
        self.assertIs(type(told), type(worth))

    def test_parts(self):
        self.told((), WORTH)
        self.told((field("n"),), 5)
        self.told((field("r"), at(1)), (False, 2))
        self.told((field("r"), at(2), field("x")), True)
        self.told((field("v"),), ("a", (9,)))
        self.told((field("v"), arm("a")), (9,))
        self.told((field("v"), arm("a"), SOME), 9)
        self.told((field("m"), SOME, at(1)), False)

    def refused(self, path, *told, kind=KIND, whole=WORTH, book=()):
        self.assertEqual(refusal(part, book, kind, whole, path), told)
        self.assertEqual(refusal(replaced, book, kind, whole, path, None), told)

    def test_out_of_row(self):
        for number in (3, -1, 4, 10 ** 400, -10 ** 400):
            self.refused((field("r"), at(number)), "OutOfRow", 1)
            self.refused((field("r"), at(number), field("x")), "OutOfRow", 1)
        kind = row(2, row(3, T))
        whole = ((True,) * 3,) * 2
        self.refused((at(2), at(3)), "OutOfRow", 0, kind=kind, whole=whole)
        self.refused((at(1), at(3)), "OutOfRow", 1, kind=kind, whole=whole)

    def test_wrong_arm(self):
        self.refused((field("v"), arm("b")), "WrongArm", 1)
        whole = (5, WORTH[1], ("b", ()), ())
        self.refused((field("v"), arm("a")), "WrongArm", 1, whole=whole)
        self.refused((field("v"), arm("a"), SOME), "WrongArm", 1, whole=whole)
        self.refused((field("m"), SOME), "WrongArm", 1, whole=whole)
        self.refused((field("m"), SOME, at(7)), "WrongArm", 1, whole=whole)
        whole = (5, WORTH[1], ("a", ()), ())
        self.refused((field("v"), arm("a"), SOME), "WrongArm", 2, whole=whole)

    def test_bad_paths_go_ahead(self):
        self.refused((field("r"), at(3), field("z")), "BadPath", 2)
        self.refused((field("v"), arm("b"), SOME), "BadPath", 2)
        self.refused((field("m"), SOME, at(2), at(0)), "BadPath", 3)
        self.refused(None, "BadPath", -1)

    def test_the_first_step_that_cannot_be_gone(self):
        self.refused((field("m"), SOME, at(2)), "OutOfRow", 2)
        kind = row(2, maybe(row(2, variant(a=T, b=T))))
        whole = ((), ((("a", True), ("b", True)),))
        self.refused((at(0), SOME, at(5), arm("a")), "WrongArm", 1, kind=kind, whole=whole)
        self.refused((at(1), SOME, at(5), arm("b")), "OutOfRow", 2, kind=kind, whole=whole)
        self.refused((at(1), SOME, at(0), arm("b")), "WrongArm", 3, kind=kind, whole=whole)

    def test_through_boxes(self):
        whole = ("cons", (1, ("cons", (2, ("nil", ())))))
        tail = (arm("cons"), field("tail"))
        self.told(tail, whole[1][1], LIST8, whole, LIST)
        self.told(tail + tail, ("nil", ()), LIST8, whole, LIST)
        self.refused(tail * 3, "WrongArm", 4, kind=LIST8, whole=whole, book=LIST)

    def test_replaced(self):
        for path, other, whole in (((), WORTH, WORTH), ((field("n"),), 255, (255,) + WORTH[1:]),
                                   ((field("r"), at(1), field("y")), 9,
                                    (5, ((True, 1), (False, 9), (True, 3))) + WORTH[2:]),
                                   ((field("v"), arm("a")), (), WORTH[:2] + (("a", ()), WORTH[3])),
                                   ((field("v"), arm("a"), SOME), 0, WORTH[:2] + (("a", (0,)), WORTH[3])),
                                   ((field("v"),), ("b", ()), WORTH[:2] + (("b", ()), WORTH[3])),
                                   ((field("m"), SOME, at(0)), False, WORTH[:3] + (((False, False),),)),
                                   ((field("m"),), (), WORTH[:3] + ((),))):
            self.assertEqual(replaced((), KIND, WORTH, path, other), whole)
            self.assertEqual(part((), KIND, whole, path), other)
        self.assertEqual(WORTH, (5, ((True, 1), (False, 2), (True, 3)), ("a", (9,)), ((True, False),)))

    def test_misfit(self):
        for path, other, told in (((field("n"),), 256, (field("n"),)), ((field("n"),), True, (field("n"),)),
                                  ((field("r"), at(1)), (False,), (field("r"), at(1))),
                                  ((field("r"), at(1)), (False, -1), (field("r"), at(1), field("y"))),
                                  ((field("v"),), ("c", ()), (field("v"),)), ((), None, ()),
                                  ((field("v"), arm("a"), SOME), (), (field("v"), arm("a"), SOME)),
                                  ((field("m"), SOME), (True, 0), (field("m"), SOME, at(1)))):
            self.assertEqual(refusal(replaced, (), KIND, WORTH, path, other), ("Misfit", told))
        for thing in NO_THINGS:
            self.assertEqual(refusal(replaced, (), KIND, WORTH, (field("r"),), thing), ("Misfit", (field("r"),)))

    def test_misfit_by_boxes(self):
        def numbers(many):
            worth = ("nil", ())
            for each in range(many):
                worth = ("cons", (each, worth))
            return worth

        tail = (arm("cons"), field("tail"))
        whole = numbers(8)
        self.assertEqual(replaced(LIST, LIST8, whole, tail * 3, numbers(9)),
                         replaced(LIST, LIST8, whole, tail, replaced(LIST, LIST8, numbers(7), tail * 2, numbers(9))))
        self.assertEqual(refusal(replaced, LIST, LIST8, whole, tail * 3, numbers(10)), ("Misfit", tail * 13))
        self.assertIsNone(misfit(LIST, LIST8, numbers(10)))

    def test_misfit_by_parts(self):
        kind = record(a=maybe(PARTS_1000), b=maybe(row(2, T)))
        thing = (((0,) * 10,) * 10,) * 9
        whole = ((), ((True, True),))
        self.assertEqual(refusal(replaced, (), kind, whole, (field("a"),), (thing,)),
                         ("Misfit", misfit((), kind, ((thing,), ((True, True),)))))
        self.assertEqual(refusal(replaced, (), kind, whole, (field("a"),), (thing,))[1],
                         (field("a"), SOME, at(8), at(9), at(8)))
        smaller = record(a=maybe(row(8, PARTS_1000[2])), b=maybe(row(16, row(10, T))))
        whole = ((thing[:8],), ())
        self.assertEqual(refusal(replaced, (), smaller, whole, (field("b"),), (((True,) * 10,) * 16,)),
                         ("Misfit", misfit((), smaller, (whole[0], (((True,) * 10,) * 16,)))))

    def test_worths_of_any_making(self):
        dice = random.Random(43)
        gone = 0
        for each in range(400):
            kind = random_kind(dice)
            try:
                worth = random_worth(dice, BOOK, kind)
                path, here = random_path(dice, BOOK, kind)
                other = random_worth(dice, BOOK, here, 2)
                old = part(BOOK, kind, worth, path)
            except (OutOfRow, WrongArm):
                continue
            except ValueError as why:
                self.assertNotIsInstance(why, BadPath)
                continue
            if misfit(BOOK, kind, worth) is not None:
                continue
            self.assertEqual(replaced(BOOK, kind, worth, path, old), worth)
            if refusal(replaced, BOOK, kind, worth, path, other) is None:
                gone += 1
                whole = replaced(BOOK, kind, worth, path, other)
                self.assertEqual(part(BOOK, kind, whole, path), other)
                self.assertEqual(replaced(BOOK, kind, whole, path, old), worth)
        self.assertGreater(gone, 100)


class MeetingTest(unittest.TestCase):
    def told(self, one, other, word, number, kind=KIND, book=()):
        self.assertEqual(meeting(book, kind, one, other), (word, number))
        self.assertEqual(meeting(book, kind, other, one), (word, number))

    def test_within(self):
        for path in ((), (field("n"),), (field("r"), at(1), field("x")), (field("v"), arm("a"), SOME)):
            for many in range(len(path) + 1):
                self.told(path, path[:many], "within", many)

    def test_apart(self):
        self.told((field("n"),), (field("r"),), "apart", 0)
        self.told((field("r"), at(0)), (field("r"), at(1)), "apart", 1)
        self.told((field("r"), at(0), field("x")), (field("r"), at(0), field("y")), "apart", 2)
        self.told((field("r"), at(0), field("x")), (field("m"), SOME), "apart", 0)
        self.told((field("r"), at(-1)), (field("r"), at(3)), "apart", 1)

    def test_arms(self):
        self.told((field("v"), arm("a")), (field("v"), arm("b")), "arms", 1)
        self.told((field("v"), arm("a"), SOME), (field("v"), arm("b")), "arms", 1)
        self.told((arm("a"),), (arm("b"),), "arms", 0, variant(a=T, b=T))

    def test_bad_paths(self):
        good, bad, worse = (field("n"),), (field("r"), field("n")), None
        self.assertEqual(refusal(meeting, (), KIND, bad, good), ("BadPath", 1))
        self.assertEqual(refusal(meeting, (), KIND, good, bad), ("BadPath", 1))
        self.assertEqual(refusal(meeting, (), KIND, bad, worse), ("BadPath", 1))
        self.assertEqual(refusal(meeting, (), KIND, worse, bad), ("BadPath", -1))

    def test_replacing_at_the_one_leaves_the_other(self):
        dice = random.Random(47)
        looked = 0
        while looked < 150:
            kind = random_kind(dice)
            try:
                worth = random_worth(dice, BOOK, kind)
                paths = [random_path(dice, BOOK, kind) for each in range(2)]
                parts = [part(BOOK, kind, worth, path) for path, here in paths]
                other = random_worth(dice, BOOK, paths[0][1], 2)
                whole = replaced(BOOK, kind, worth, paths[0][0], other)
            except ValueError:
                continue
            word, number = meeting(BOOK, kind, paths[0][0], paths[1][0])
            self.assertNotEqual(word, "arms")
            if word == "apart":
                looked += 1
                self.assertEqual(part(BOOK, kind, whole, paths[1][0]), parts[1])


if __name__ == "__main__":
    unittest.main()
