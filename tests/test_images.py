"""Live slots, patterns, images and weights: C5 to C8."""

import random
import unittest

from packedforms.images import imaged, imagefault, patternfault, rows_of, weight, worth_of
from packedforms.plancheck import planfault
from packedforms.plans import block, size
from packedforms.worths import coded, count, misfit, sizeof, unranked
from tests.planning import changed, simple_plan, with_form
from tests.things import (BOXES, LIST, LIST8, N8, N16, NONE, NO_THINGS, PARTS_1000, T, box, deep, maybe, nat, record,
                          refusal, row, use, variant, whole)
from tests.worlds import BOOK, random_world, random_worth, wild_plan

F, Y = False, True


def field(name):
    return ("field", name)


def at(number):
    return ("at", number)


def arm(name):
    return ("arm", name)


SOME = ("some",)

# Fields that lie in another order than they are told in, with gaps.
FIELDS = ((record(n=nat(5), t=T, w=N16), ("fields", 50, ((24, 1, F), (8, 2, F), (32, 3, F)))), (nat(5), ("slot", 8)),
          (T, ("slot", 8)), (N16, ("slot", 16)))
FAR = with_form(FIELDS, 0, ("fields", 64, ((48, 1, F), (16, 2, Y), (0, 3, Y))))
RUN = ((row(3, T), ("run", 24, 1)), (T, ("slot", 8)))
POINT = ((box(N8), ("point", 1)), (N8, ("slot", 16)))
SAME = ((use("one", T), ("same", 1)), (box(T), ("point", 2)), (T, ("slot", 64)))
CHOICE = variant(a=nat(5), b=T, c=NONE)
REST = ((nat(5), ("slot", 8)), (T, ("slot", 8)), (NONE, ("fields", 0, ())))
# Codes out of order, none of them 0.
PICK = ((CHOICE, ("pick", 32, 8, 3, -1, ((6, 16, 1, F), (1, 24, 2, F), (5, 0, 3, F)))),) + REST
HOSTED = ((CHOICE, ("pick", 32, 8, 8, 0, ((-1, 8, 1, F), (40, 24, 2, F), (32, 0, 3, F)))),) + REST
LONE = ((variant(a=nat(5)), ("pick", 16, 3, 0, -1, ((0, 8, 1, F),))), (nat(5), ("slot", 8)))
MAYBE = ((maybe(T), ("pick", 8, 0, 8, 1, ((2, 0, -1, F), (-1, 0, 1, F)))), (T, ("slot", 8)))
FAR_ARMS = ((CHOICE, ("pick", 32, 0, 16, 0, ((-1, 0, 1, Y), (32768, 16, 2, Y), (65535, 0, 3, F)))),) + REST
PLANS = (FIELDS, FAR, RUN, POINT, PICK, HOSTED, LONE, MAYBE, FAR_ARMS)


class PlansTest(unittest.TestCase):
    def test_plans_hold(self):
        for plan in PLANS:
            self.assertIsNone(planfault((), plan))
        self.assertIsNone(planfault(BOXES, SAME))


class RowsTest(unittest.TestCase):
    def told(self, plan, pattern, *rows, entry=0):
        self.assertIsNone(patternfault(plan, entry, pattern))
        self.assertEqual(rows_of(plan, entry, pattern), rows)

    def test_slots(self):
        self.told(((N8, ("slot", 16)),), 255, ((), 0, 16, "number", 0))
        self.told(((whole(3), ("slot", 3)),), 7, ((), 0, 3, "number", 0))
        self.told(((T, ("slot", 64)),), 1, ((), 0, 64, "truth", 0))
        self.told(FIELDS, 3, ((), 0, 8, "number", 1), entry=1)

    def test_fields_in_their_order(self):
        self.told(FIELDS, 0, ((field("n"),), 24, 8, "number", 1), ((field("t"),), 8, 8, "truth", 2),
                  ((field("w"),), 32, 16, "number", 3))
        self.told(((NONE, ("fields", 7, ())),), 0)

    def test_far_parts(self):
        self.told(FAR, 40 << 16, ((field("n"),), 48, 8, "number", 1), ((field("t"),), 16, 16, "far", 2),
                  ((field("w"),), 0, 16, "far", 3))

    def test_runs(self):
        self.told(RUN, 0, ((at(0),), 0, 8, "truth", 1), ((at(1),), 24, 8, "truth", 1), ((at(2),), 48, 8, "truth", 1))
        plan = ((row(2, record(a=N8, b=T)), ("run", 32, 1)), (record(a=N8, b=T),
                                                              ("fields", 17, ((8, 2, F), (0, 3, F)))),
                (N8, ("slot", 8)), (T, ("slot", 1)))
        self.told(plan, 0, ((at(0), field("a")), 8, 8, "number", 2), ((at(0), field("b")), 0, 1, "truth", 3),
                  ((at(1), field("a")), 40, 8, "number", 2), ((at(1), field("b")), 32, 1, "truth", 3))

    def test_points_and_sames(self):
        self.told(POINT, 32767, ((), 0, 16, "box", 1))
        self.told(SAME, 8, ((), 0, 16, "box", 2))
        self.told(SAME, 8, ((), 0, 16, "box", 2), entry=1)
        book_plan = ((use("flag"), ("same", 1)), (T, ("slot", 8)))
        self.told(book_plan, 1, ((), 0, 8, "truth", 1))

    def test_a_box_behind_a_far_part(self):
        kind = record(a=box(T), b=box(T))
        plan = ((kind, ("fields", 32, ((16, 1, F), (0, 1, Y)))), (box(T), ("point", 2)), (T, ("slot", 1)))
        self.assertIsNone(planfault((), plan))
        self.told(plan, 0, ((field("a"),), 16, 16, "box", 2), ((field("b"),), 0, 16, "far", 1))

    def test_picks_without_a_host(self):
        self.told(PICK, 6 << 8 | 31 << 16, ((), 8, 3, "tag", 0), ((arm("a"),), 16, 8, "number", 1))
        self.told(PICK, 1 << 8 | 1 << 24, ((), 8, 3, "tag", 0), ((arm("b"),), 24, 8, "truth", 2))
        self.told(PICK, 5 << 8, ((), 8, 3, "tag", 0))

    def test_picks_with_a_host(self):
        for number in (0, 31):
            self.told(HOSTED, number << 8, ((arm("a"),), 8, 8, "number", 1))
        self.told(HOSTED, 40 << 8 | 1 << 24, ((), 8, 8, "tag", 0), ((arm("b"),), 24, 8, "truth", 2))
        self.told(HOSTED, 32 << 8, ((), 8, 8, "tag", 0))

    def test_tags_without_bits(self):
        self.told(LONE, 31 << 8, ((arm("a"),), 8, 8, "number", 1))

    def test_maybes(self):
        self.told(MAYBE, 2, ((), 0, 8, "tag", 0))
        self.told(MAYBE, 1, ((SOME,), 0, 8, "truth", 1))
        plan = with_form(MAYBE, 0, ("pick", 16, 8, 1, -1, ((1, 0, -1, F), (0, 0, 1, F))))
        self.told(plan, 256, ((), 8, 1, "tag", 0))
        self.told(plan, 1, ((), 8, 1, "tag", 0), ((SOME,), 0, 8, "truth", 1))

    def test_far_arms(self):
        self.told(FAR_ARMS, 100, ((arm("a"),), 0, 16, "far", 1))
        self.told(FAR_ARMS, 32768 | 77 << 16, ((), 0, 16, "tag", 0), ((arm("b"),), 16, 16, "far", 2))
        self.told(FAR_ARMS, 65535, ((), 0, 16, "tag", 0))

    def test_tags_in_tags(self):
        kind = maybe(maybe(T))
        plan = ((kind, ("pick", 8, 0, 8, 1, ((9, 0, -1, F), (-1, 0, 1, F)))),
                (maybe(T), ("pick", 8, 0, 8, 1, ((4, 0, -1, F), (-1, 0, 2, F)))), (T, ("slot", 8)))
        self.assertIsNone(planfault((), plan))
        self.told(plan, 9, ((), 0, 8, "tag", 0))
        self.told(plan, 4, ((SOME,), 0, 8, "tag", 1))
        self.told(plan, 1, ((SOME, SOME), 0, 8, "truth", 2))
        for pattern in (2, 3):
            self.assertEqual(patternfault(plan, 0, pattern), ((SOME,), "tag"))
        for pattern in (5, 8, 10, 255):
            self.assertEqual(patternfault(plan, 0, pattern), ((), "tag"))


def expanded(plan, image, path=()):
    """All slots of an image and, in the place of each point, of what is behind it: (path, word, number, entry)."""
    rows = []
    images = list(image[2])
    for inner, place, wide, word, entry in rows_of(plan, image[0], image[1]):
        if word in ("box", "far"):
            rows += expanded(plan, images.pop(0), path + inner)
        else:
            rows.append((path + inner, word, image[1] >> place & 2 ** wide - 1, entry))
    return rows


def plain_parts(kind, worth, path=()):
    """All numbers and truths of a worth in preorder: (path, kind, worth)."""
    word = kind[0]
    if word in ("nat", "int", "truth"):
        return [(path, kind, worth)]
    if word == "record":
        inner = [(field(name), each, thing) for (name, each), thing in zip(kind[1], worth)]
    elif word == "row":
        inner = [(at(place), kind[2], thing) for place, thing in enumerate(worth)]
    elif word == "maybe":
        inner = [(SOME, kind[1], thing) for thing in worth]
    elif word == "variant":
        inner = [(arm(worth[0]), dict(kind[1])[worth[0]], worth[1])]
    elif word == "box":
        return plain_parts(kind[1], worth, path)
    else:
        from packedforms.books import body
        return plain_parts(body(BOOK, kind), worth, path)
    return [each for step, part, thing in inner for each in plain_parts(part, thing, path + (step,))]


class WorldsTest(unittest.TestCase):
    """Plans of any making: worths go to bits and back."""

    @classmethod
    def setUpClass(cls):
        dice = random.Random(31)
        cls.worlds = []
        while len(cls.worlds) < 250:
            kind, plan = random_world(dice)
            worths = [random_worth(dice, BOOK, kind) for each in range(3)]
            cls.worlds.append((kind, plan, [worth for worth in worths if misfit(BOOK, kind, worth) is None]))

    def test_there_and_back(self):
        for kind, plan, worths in self.worlds:
            for worth in worths:
                image = imaged(BOOK, plan, worth)
                self.assertIsNone(imagefault(plan, image))
                self.assertEqual(worth_of(plan, image), worth)
                self.assertEqual(imaged(BOOK, plan, worth), image)

    def test_unlike_worths_have_unlike_images(self):
        for kind, plan, worths in self.worlds:
            images = [imaged(BOOK, plan, worth) for worth in worths]
            for one, image in zip(worths, images):
                for other, its_image in zip(worths, images):
                    self.assertEqual(one == other, image == its_image)

    def test_live_slots_are_the_plain_parts_in_preorder(self):
        for kind, plan, worths in self.worlds:
            for worth in worths:
                rows = [slot for slot in expanded(plan, imaged(BOOK, plan, worth)) if slot[1] != "tag"]
                due = [(path, "truth" if part == T else "number", coded(part, thing), part)
                       for path, part, thing in plain_parts(kind, worth)]
                self.assertEqual([slot[:3] + (plan[slot[3]][0],) for slot in rows], due)

    def test_weights(self):
        for kind, plan, worths in self.worlds:
            for worth in worths:
                image = imaged(BOOK, plan, worth)
                left, bytes_in_all = [image], 0
                while left:
                    entry, pattern, images = left.pop()
                    bytes_in_all += block(plan, entry)
                    left += images
                self.assertEqual(weight(plan, image), bytes_in_all)

    def test_each_entry(self):
        dice = random.Random(4)
        for kind, plan, worths in self.worlds[:80]:
            for entry, (each, form) in enumerate(plan):
                try:
                    worth = random_worth(dice, BOOK, each)
                except ValueError:
                    continue
                if misfit(BOOK, each, worth) is None:
                    image = imaged(BOOK, plan, worth, entry=entry)
                    self.assertEqual(image[0], entry)
                    self.assertIsNone(imagefault(plan, image, entry=entry))
                    self.assertEqual(worth_of(plan, image, entry=entry), worth)

    def test_patterns_are_just_those_of_worths(self):
        dice = random.Random(8)
        hosts = 0
        for kind in SMALL * 12:
            plan = wild_plan(dice, BOOK, kind)
            if "True" in str([form for each, form in plan]):
                continue
            hosts += any(form[0] == "pick" and form[4] != -1 for each, form in plan)
            many = count(BOOK, kind)
            worths = {imaged(BOOK, plan, unranked(BOOK, kind, rank))[1] for rank in range(many)}
            self.assertEqual(len(worths), many)
            bits = range(size(plan, 0))
            near = {pattern ^ 1 << bit for pattern in worths for bit in bits}
            near |= {dice.choice(sorted(near)) ^ 1 << dice.choice(bits) for each in range(50)}
            for pattern in near | worths | set(range(min(2 ** len(bits), 300))):
                self.assertEqual(patternfault(plan, 0, pattern) is None, pattern in worths)
        self.assertGreater(hosts, 20)


SMALL = (maybe(T), maybe(maybe(T)), variant(a=nat(2), b=T, c=NONE), record(a=maybe(T), b=T),
         maybe(record(a=T, b=nat(2))),
         variant(a=maybe(T), b=T), row(2, nat(3)), variant(a=maybe(nat(3)), b=variant(c=T, d=NONE)), maybe(use("flag")),
         record(a=nat(2), b=variant(a=T)), row(3, variant(a=NONE, b=T)))


class PatternFaultTest(unittest.TestCase):
    def told(self, plan, pattern, path, why, entry=0):
        self.assertEqual(patternfault(plan, entry, pattern), (path, why))

    def right(self, plan, pattern, entry=0):
        self.assertIsNone(patternfault(plan, entry, pattern))

    def test_pattern(self):
        for plan, bits in ((RUN, 56), (FIELDS, 50), (((NONE, ("fields", 0, ())),), 0), (LONE, 16)):
            self.assertEqual(size(plan, 0), bits)
            self.right(plan, 0)
            for pattern in (-1, 2 ** bits, 2 ** bits + 1, 10 ** 400, -10 ** 400) + tuple(
                    thing for thing in NO_THINGS if type(thing) is not int):
                self.told(plan, pattern, (), "pattern")
        self.right(((nat(64), ("slot", 64)),), 2 ** 64 - 1)
        self.told(((nat(64), ("slot", 64)),), 2 ** 64, (), "pattern")

    def test_the_greatest_pattern(self):
        self.right(((nat(7), ("slot", 7)),), 127)
        self.told(((nat(7), ("slot", 7)),), 128, (), "pattern")
        self.told(((nat(7), ("slot", 8)),), 255, (), "number")

    def test_number(self):
        for bits, wide in ((1, 8), (5, 8), (9, 16), (33, 64), (63, 64)):
            for kind in (nat(bits), whole(bits)):
                plan = ((kind, ("slot", wide)),)
                for pattern in (0, 1, 2 ** bits - 1):
                    self.right(plan, pattern)
                for pattern in (2 ** bits, 2 ** wide - 1):
                    self.told(plan, pattern, (), "number")
        self.told(FIELDS, 32 << 24, (field("n"),), "number")
        self.right(FIELDS, 31 << 24)

    def test_truth(self):
        for pattern in (2, 3, 255):
            self.told(((T, ("slot", 8)),), pattern, (), "truth")
        self.told(RUN, 2 << 48, (at(2),), "truth")
        self.right(((T, ("slot", 1)),), 1)

    def test_tag(self):
        for tag in (0, 2, 3, 4, 7):
            self.told(PICK, tag << 8, (), "tag")
        for tag in (33, 39, 41, 255):
            self.told(HOSTED, tag << 8, (), "tag")
        for tag in (3, 255):
            self.told(MAYBE, tag, (), "tag")
        things = ((row(2, CHOICE), ("run", 32, 1)), (CHOICE, ("pick", 32, 8, 3, -1, ((6, 16, 2, F), (1, 24, 3, F),
                                                                                   (5, 0, 4, F))))) + REST
        self.told(things, 6 << 8 | 7 << 40, (at(1),), "tag")

    def test_point(self):
        for plan, path in ((POINT, ()), (SAME, ()), (FAR, (field("w"),))):
            for pattern in (0, 1, 8, 32767):
                self.right(plan, pattern)
            for pattern in (32768, 65535):
                self.told(plan, pattern, path, "point")
        self.told(FAR, 32768 << 16, (field("t"),), "point")
        self.right(FAR_ARMS, 32767)
        self.told(FAR_ARMS, 32769, (), "tag")
        self.told(FAR_ARMS, 32768 | 32768 << 16, (arm("b"),), "point")

    def test_gap(self):
        for bit in list(range(0, 8)) + list(range(16, 24)) + [48, 49]:
            self.told(FIELDS, 1 << bit, (), "gap")
        for bit in (8, 24, 28, 32, 47):
            self.right(FIELDS, 1 << bit)
        self.told(PICK, 6 << 8 | 1 << 24, (), "gap")
        self.told(PICK, 5 << 8 | 1 << 11, (), "gap")
        self.told(PICK, 5 << 8 | 1, (), "gap")
        self.told(HOSTED, 1 << 24, (), "gap")
        self.told(LONE, 1 << 3, (), "gap")
        self.told(((NONE, ("fields", 2, ())),), 2, (), "gap")
        self.told(FIELDS, 1 << 9, (field("t"),), "truth")

    def test_the_first_of_several(self):
        n, t = 32 << 24, 2 << 8
        self.told(FIELDS, n | t | 1, (field("n"),), "number")
        self.told(FIELDS, t | 1, (field("t"),), "truth")
        self.told(FIELDS, n | t | 1 << 50, (), "pattern")
        self.told(RUN, 2 | 2 << 24, (at(0),), "truth")
        self.told(FAR, 32 << 48 | 32768 | 32768 << 16, (field("n"),), "number")
        self.told(FAR, 32768 | 32768 << 16, (field("t"),), "point")
        self.told(HOSTED, 33 << 8 | 2 << 24, (), "tag")
        self.told(HOSTED, 40 << 8 | 2 << 24 | 1, (arm("b"),), "truth")
        kind = record(v=maybe(T), n=nat(5))
        plan = ((kind, ("fields", 16, ((8, 1, F), (0, 3, F)))), (maybe(T), ("pick", 8, 0, 8, 1, (
            (2, 0, -1, F), (-1, 0, 2, F)))), (T, ("slot", 8)), (nat(5), ("slot", 8)))
        self.told(plan, 3 << 8 | 32, (field("v"),), "tag")
        self.told(plan, 2 << 8 | 32, (field("n"),), "number")

    def test_entries(self):
        self.told(FIELDS, 32, (), "number", entry=1)
        self.told(FIELDS, 2, (), "truth", entry=2)
        self.right(FIELDS, 65535, entry=3)
        self.told(FIELDS, 65536, (), "pattern", entry=3)


LIST_PLAN = ((LIST8, ("same", 1)),
             (variant(nil=NONE, cons=record(head=N8, tail=box(LIST8))),
              ("pick", 48, 0, 8, -1, ((0, 0, 2, F), (1, 16, 3, F)))),
             (NONE, ("fields", 0, ())),
             (record(head=N8, tail=box(LIST8)), ("fields", 32, ((0, 4, F), (16, 5, F)))),
             (N8, ("slot", 8)), (box(LIST8), ("point", 0)))
NIL = (0, 0, ())
TAIL = (arm("cons"), field("tail"))


def cons(head, rest):
    return (0, 1 | head << 16, (rest,))


def chain(many, last=NIL):
    for head in range(many):
        last = cons(head, last)
    return last


# An arm that is far, with a box in it: far pointers lie between the boxes.
LINK = maybe(record(n=N8, more=box(use("link"))))
FAR_BOOK = (("link", (), LINK),)
FAR_LINK = ((use("link"), ("same", 1)), (LINK, ("pick", 16, 0, 16, 1, ((32768, 0, -1, F), (-1, 0, 2, Y)))),
            (LINK[1], ("fields", 32, ((0, 3, F), (16, 4, F)))), (N8, ("slot", 8)), (box(use("link")), ("point", 0)))


def far_chain(many):
    last = (0, 32768, ())
    for each in range(many):
        last = (0, 0, ((2, 7, (last,)),))
    return last


class ImageTest(unittest.TestCase):
    def test_plans_hold(self):
        self.assertIsNone(planfault(LIST, LIST_PLAN))
        self.assertIsNone(planfault(FAR_BOOK, FAR_LINK))

    def test_images(self):
        for plan, worth, image in ((FIELDS, (31, Y, 258), (0, 31 << 24 | 1 << 8 | 258 << 32, ())),
                                   (FAR, (3, Y, 9), (0, 3 << 48, ((2, 1, ()), (3, 9, ())))),
                                   (RUN, (Y, F, Y), (0, 1 | 1 << 48, ())), (POINT, 5, (0, 0, ((1, 5, ()),))),
                                   (PICK, ("a", 9), (0, 6 << 8 | 9 << 16, ())), (PICK, ("c", ()), (0, 5 << 8, ())),
                                   (HOSTED, ("a", 9), (0, 9 << 8, ())), (HOSTED, ("b", Y), (0, 40 << 8 | 1 << 24, ())),
                                   (HOSTED, ("c", ()), (0, 32 << 8, ())), (LONE, ("a", 1), (0, 256, ())),
                                   (MAYBE, (), (0, 2, ())), (MAYBE, (F,), (0, 0, ())), (MAYBE, (Y,), (0, 1, ())),
                                   (FAR_ARMS, ("a", 7), (0, 0, ((1, 7, ()),))),
                                   (FAR_ARMS, ("b", Y), (0, 32768, ((2, 1, ()),))),
                                   (FAR_ARMS, ("c", ()), (0, 65535, ()))):
            self.assertEqual(imaged((), plan, worth), image)
            self.assertIsNone(imagefault(plan, image))
            self.assertEqual(worth_of(plan, image), worth)
            self.assertIs(type(worth_of(plan, image)), type(worth))

    def test_numbers_below_0_and_truths(self):
        plan = ((record(a=whole(8), b=T), ("fields", 64, ((16, 1, F), (0, 2, F)))), (whole(8), ("slot", 16)),
                (T, ("slot", 8)))
        self.assertEqual(imaged((), plan, (-1, Y)), (0, 255 << 16 | 1, ()))
        self.assertEqual(imaged((), plan, (-128, F)), (0, 128 << 16, ()))
        self.assertEqual(worth_of(plan, (0, 255 << 16 | 1, ())), (-1, True))
        self.assertIs(worth_of(plan, (0, 1, ()))[1], True)
        self.assertIs(worth_of(plan, (0, 0, ()))[1], False)

    def test_images_in_the_order_of_the_walk(self):
        self.assertEqual(imaged(LIST, LIST_PLAN, ("cons", (1, ("cons", (0, ("nil", ())))))), chain(2))
        plan = simple_plan(BOXES, use("tree"))
        leaf = [imaged(BOXES, plan, ("leaf", number)) for number in range(4)]
        fork = imaged(BOXES, plan, ("fork", (("fork", (("leaf", 0), ("leaf", 1))),
                                             ("fork", (("leaf", 2), ("leaf", 3))))))
        self.assertEqual([each[2] for each in fork[2]], [tuple(leaf[:2]), tuple(leaf[2:])])

    def test_misfit(self):
        for worth in NO_THINGS + ((31, Y, 65536), (32, Y, 0), (1, 1, 1), (1, Y), ("cons", (1, 2))):
            self.assertEqual(refusal(imaged, (), FIELDS, worth), ("Misfit", misfit((), FIELDS[0][0], worth)))
            self.assertEqual(refusal(imaged, LIST, LIST_PLAN, worth), ("Misfit", misfit(LIST, LIST8, worth)))
        self.assertEqual(refusal(imaged, (), FIELDS, 32, entry=1), ("Misfit", ()))
        self.assertEqual(imaged((), FIELDS, 31, entry=1), (1, 31, ()))
        self.assertEqual(imaged((), FIELDS, Y, entry=2), (2, 1, ()))

    def test_bad_image(self):
        for image in NO_THINGS + ((0, 1, ()), (1, 0, ()), (0, 2 << 8, ()), (F, 0, ())):
            fault = imagefault(FIELDS, image)
            self.assertIsNotNone(fault)
            self.assertEqual(refusal(worth_of, FIELDS, image), ("BadImage",) + fault)
        self.assertEqual(refusal(worth_of, FIELDS, (0, 0, ()), entry=1), ("BadImage", (), "image"))
        self.assertEqual(worth_of(FIELDS, (1, 5, ()), entry=1), 5)

    def test_weight(self):
        for many in range(5):
            self.assertEqual(weight(LIST_PLAN, chain(many)), 8 * (many + 1))
        self.assertEqual(weight(FAR, (0, 0, ((2, 1, ()), (3, 9, ())))), 24)
        self.assertEqual(weight(FAR, (2, 1, ())), 8)
        self.assertEqual(weight(((row(16, nat(64)), ("run", 64, 1)), (nat(64), ("slot", 64))), (0, 0, ())), 128)
        self.assertEqual(weight(((row(2, nat(64)), ("run", 65 * 64 - 128, 1)), (nat(64), ("slot", 64))), (0, 0, ())),
                         512)


class ImageFaultTest(unittest.TestCase):
    def told(self, plan, image, path, why, **named):
        self.assertEqual(imagefault(plan, image, **named), (path, why))

    def test_image(self):
        for image in NO_THINGS + ((0, 0), (0, 0, (), ()), (0, 0, None), (0, 0, 5), (0, 0, "ab"), (1, 0, ()),
                                  (-1, 0, ()),
                                  (F, 0, ()), (None, 0, ()), ("0", 0, ()), ((0,), 0, ()), "abc"):
            self.told(FIELDS, image, (), "image")
            self.told(LIST_PLAN, cons(1, image), TAIL, "image")
        self.told(FIELDS, (Y, 0, ()), (), "image", entry=1)
        self.told(FIELDS, (0, 0, ()), (), "image", entry=1)
        self.assertIsNone(imagefault(FIELDS, (1, 0, ()), entry=1))

    def test_patterns_faults(self):
        for pattern in (-1, 2 ** 50, True, None, "0", (), 32 << 24, 2 << 8, 1, 33 << 24 | 1):
            fault = patternfault(FIELDS, 0, pattern)
            self.assertIsNotNone(fault)
            self.told(FIELDS, (0, pattern, ()), *fault)
        for pattern, path, why in ((2, (), "tag"), (2 ** 48, (), "pattern"), (1 << 9, (), "gap"),
                                   (1 | 1 << 24, (), "gap"),
                                   (1 | 32768 << 32, TAIL, "point"), (None, (), "pattern")):
            self.told(LIST_PLAN, (0, pattern, ()), path, why)
            self.told(LIST_PLAN, cons(1, cons(2, (0, pattern, ()))), TAIL + TAIL + path, why)

    def test_point(self):
        self.told(LIST_PLAN, (0, 1 | 8 << 32, (NIL,)), TAIL, "point")
        self.told(LIST_PLAN, cons(1, (0, 1 | 1 << 32, (NIL,))), TAIL + TAIL, "point")
        self.told(FAR, (0, 8 << 16, ((2, 1, ()), (3, 9, ()))), (field("t"),), "point")
        self.told(FAR, (0, 8, ((2, 1, ()), (3, 9, ()))), (field("w"),), "point")
        self.told(FAR, (0, 8 | 8 << 16, ()), (field("t"),), "point")
        self.told(POINT, (0, 8, ((1, 5, ()),)), (), "point")

    def test_images(self):
        self.told(FIELDS, (0, 0, ((1, 0, ()),)), (), "images")
        self.told(LIST_PLAN, (0, 1, ()), (), "images")
        self.told(LIST_PLAN, (0, 1, (NIL, NIL)), (), "images")
        self.told(LIST_PLAN, (0, 0, (NIL,)), (), "images")
        self.told(LIST_PLAN, cons(1, (0, 0, (NIL,))), TAIL, "images")
        self.told(FAR, (0, 0, ((2, 1, ()),)), (), "images")
        self.told(FAR, (0, 0, ((2, 1, ()), (3, 9, ()), (3, 9, ()))), (), "images")

    def test_images_one_by_one(self):
        self.told(FAR, (0, 0, ((3, 1, ()), (2, 9, ()))), (field("t"),), "image")
        self.told(FAR, (0, 0, ((2, 1, ()), (2, 9, ()))), (field("w"),), "image")
        self.told(FAR, (0, 0, ((2, 2, ()), (2, 9, ()))), (field("t"),), "truth")
        self.told(FAR, (0, 0, ((2, 1, ()), (3, 65536, ()))), (field("w"),), "pattern")
        self.told(FAR, (0, 0, ((2, 1, ((),)), None)), (field("t"),), "images")

    def test_the_first_of_several(self):
        """Faults added one by one from the last word on: the first word is told each time."""
        image = (0, 1, (None,))
        self.told(LIST_PLAN, image, TAIL, "image")
        for place, thing, path, why in (((2,), (), (), "images"), ((1,), 1 | 1 << 32, TAIL, "point"),
                                        ((1,), 1 | 1 << 32 | 1 << 24, (), "gap"),
                                        ((1,), 1 | 65535 << 32 | 1 << 24, TAIL, "point"),
                                        ((1,), 9, (), "tag"), ((1,), -1, (), "pattern"), ((0,), 5, (), "image")):
            image = changed(image, place, thing)
            self.told(LIST_PLAN, image, path, why)

    def test_twelve_and_thirteen_boxes(self):
        self.assertIsNone(imagefault(LIST_PLAN, chain(12)))
        self.told(LIST_PLAN, chain(13), TAIL * 13, "deep")
        self.told(LIST_PLAN, chain(13, None), TAIL * 13, "deep")
        self.told(LIST_PLAN, chain(14, None), TAIL * 13, "deep")
        self.told(LIST_PLAN, chain(12, None), TAIL * 12, "image")

    def test_far_pointers_are_no_boxes(self):
        step = (SOME, field("more"))
        self.assertIsNone(imagefault(FAR_LINK, far_chain(12)))
        self.told(FAR_LINK, far_chain(13), step * 13, "deep")
        worth = worth_of(FAR_LINK, far_chain(12))
        self.assertEqual(imaged(FAR_BOOK, FAR_LINK, worth), far_chain(12))
        self.assertEqual(refusal(imaged, FAR_BOOK, FAR_LINK, ((7, worth),)), ("Misfit", step * 13))
        broken = far_chain(12)[2][0][2][0]
        self.told(FAR_LINK, (0, 0, ((2, 1 << 9, (broken,)),)), (SOME,), "gap")
        self.told(FAR_LINK, (0, 0, ((2, 7, ((0, 5, ()),)),)), step + (SOME,), "point")

    def test_just_1000_parts(self):
        plan = simple_plan((), PARTS_1000)
        worth = ((((0,) * 10,) * 10),) * 9
        self.assertEqual(sizeof((), PARTS_1000, worth), 1000)
        image = imaged((), plan, worth)
        self.assertIsNone(imagefault(plan, image))
        self.assertEqual(worth_of(plan, image), worth)
        more = record(a=PARTS_1000)
        plan = simple_plan((), more)
        images = image[2]
        entry = [kind for kind, form in plan].index(PARTS_1000[2][1])
        images = tuple((entry, 0, ()) for each in images)
        self.told(plan, (0, 0, images), (field("a"), at(8)), "parts")
        self.assertEqual(refusal(imaged, (), plan, (worth,))[0], "Misfit")

    def test_parts_are_counted_in_the_order_of_the_walk(self):
        many = row(16, row(16, T))
        kind = record(a=box(many), b=box(many), c=box(many), d=box(many), e=box(N8))
        plan = simple_plan((), kind)
        entries = {each: number for number, (each, form) in enumerate(plan)}
        filled = (entries[many], 0, ())
        image = (0, 0, (filled, filled, filled, filled, (entries[N8], 0, ())))
        self.told(plan, image, (field("d"),), "parts")
        self.told(plan, changed(image, (2, 3), None), (field("d"),), "image")
        self.told(plan, changed(image, (2, 3, 1), -1), (field("d"),), "pattern")
        self.told(plan, changed(image, (2, 4), None), (field("d"),), "parts")
        self.told(plan, changed(image, (2, 2, 2), (1,)), (field("c"),), "images")
        self.told(plan, changed(image, (2, 3, 2), (1,)), (field("d"),), "images")

    def test_deep_ahead_of_parts_and_all_else(self):
        self.told(LIST_PLAN, chain(13, (5, -1, None)), TAIL * 13, "deep")

    def test_boxes_around_a_root_of_boxes(self):
        twelve = use("six", use("six", T))
        plan = simple_plan(BOXES, twelve)
        image = imaged(BOXES, plan, True)
        self.assertIsNone(imagefault(plan, image))
        self.assertEqual(worth_of(plan, image), True)
        self.assertEqual(weight(plan, image), 13 * 8)
        plan = simple_plan(BOXES, use("one", twelve))
        entries = [number for number, (kind, form) in enumerate(plan) if form[0] == "point"]
        self.assertEqual(len(entries), 13)
        self.assertEqual(refusal(imaged, BOXES, plan, True), ("Misfit", ()))
        image = (0, 0, ())
        due = [0]
        while len(due) < 14:
            form = plan[due[-1]][1]
            while form[0] == "same":
                form = plan[form[1]][1]
            due.append(form[1])
        image = (due[13], 1, ())
        for entry in due[12::-1]:
            image = (entry, 0, (image,))
        self.told(plan, image, (), "deep")

    def test_any_written_thing(self):
        for image in (deep(280), deep(279, (0, 0, ())), (0, 0, deep(270)), (0, deep(270), ()), (deep(270), 0, ()),
                      chain(60), (0, 1, (deep(200),)), deep(90, chain(30))):
            for plan in PLANS + (LIST_PLAN, FAR_LINK):
                self.assertIsNotNone(imagefault(plan, image))
        self.told(POINT, (0, 0, deep(270)), (), "image")

    def test_images_in_any_place(self):
        dice = random.Random(77)
        for each in range(300):
            kind, plan = random_world(dice)
            worth = random_worth(dice, BOOK, kind)
            image = imaged(BOOK, plan, worth) if misfit(BOOK, kind, worth) is None else None
            for bend in range(4):
                other = bent(dice, image)
                fault = imagefault(plan, other)
                if fault is None:
                    worth = worth_of(plan, other)
                    self.assertIsNone(misfit(BOOK, kind, worth))
                    self.assertEqual(imaged(BOOK, plan, worth), other)
                else:
                    self.assertEqual(refusal(worth_of, plan, other), ("BadImage",) + fault)


def bent(dice, image):
    """An image with one thing in it changed."""
    if image is None or type(image) is not tuple or len(image) != 3:
        return image
    if image[2] and dice.random() < 0.6:
        place = dice.randrange(len(image[2]))
        return image[:2] + (image[2][:place] + (bent(dice, image[2][place]),) + image[2][place + 1:],)
    return (image[0], dice.choice((image[1] ^ 1 << dice.randrange(40), image[1] + 1, image[1])),
            dice.choice((image[2], image[2], image[2][1:], image[2] * 2)))


if __name__ == "__main__":
    unittest.main()
