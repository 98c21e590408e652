"""Sound bytes and adopted stores: E7, E8, and of E6 what it says of adopted stores."""

import random
import unittest

from packedforms.images import imaged, patternfault, rows_of
from packedforms.maker import planned
from packedforms.plancheck import planfault
from packedforms.plans import block
from packedforms.sound import adopted, soundfault
from packedforms.store import Store
from packedforms.views import View
from packedforms.worths import misfit, sizeof
from tests.test_images import FAR_BOOK, FAR_LINK, FIELDS, LIST_PLAN
from tests.test_paths import SOME, arm, at, field, random_path
from tests.test_store import NIL, memory, numbers
from tests.things import (BOXES, LIST, N8, NO_THINGS, PARTS_1000, THIRTEEN, TWELVE, WRONG_BOOK, box, deep, nat, record,
                          refusal, row, use)
from tests.worlds import BOOK, random_world, random_worth

F, Y = False, True
TAIL = (arm("cons"), field("tail"))


def cons(head, address):
    """The bytes of a block of LIST_PLAN that is a cons."""
    return (1, 0, head, 0, address % 256, address // 256, 0, 0)


class SoundTest(unittest.TestCase):
    def fault(self, room, told, roots, book=LIST, plan=LIST_PLAN):
        fault = soundfault(book, plan, room, told, roots)
        refused = refusal(adopted, book, plan, room, told, roots)
        self.assertEqual(refused, None if fault is None else ("BadStore",) + fault)
        return fault

    def told(self, room, told, roots, why, root=-1, path=(), book=LIST, plan=LIST_PLAN):
        self.assertEqual(self.fault(room, told, roots, book, plan), (why, root, path))

    def sound(self, room, told, roots, book=LIST, plan=LIST_PLAN):
        self.assertIsNone(self.fault(room, told, roots, book, plan))

    def test_sound(self):
        for room in (8, 512, 2048):
            self.sound(room, memory(room), ())
            self.sound(room, memory(room), ((1, 8),))
        self.sound(24, memory(24, a8=cons(5, 24)), ((1, 8), (2, 16)))

    def test_any_order_with_gaps(self):
        told = memory(96, a40=cons(5, 80), a80=cons(6, 8), a64=cons(9, 24))
        self.sound(96, told, ((3, 40), (7, 64)))
        store = adopted(LIST, LIST_PLAN, 96, told, ((3, 40), (7, 64)))
        self.assertEqual((store.worth(3), store.worth(7)), (numbers(5, 6), numbers(9)))
        self.assertEqual([each[0] for each in store.blocks()], [8, 24, 40, 64, 80])
        self.sound(96, told, ((1, 64), (10 ** 300, 40)))
        self.sound(96, told, ((7, 40), (9, 64), (10, 96)))

    def test_plan(self):
        for book, plan in ((WRONG_BOOK, LIST_PLAN), (LIST, None), (LIST, LIST_PLAN[:3]), ((), LIST_PLAN), (None, None),
                           (deep(280), deep(280))):
            self.assertIsNotNone(planfault(book, plan))
            for room in (512, None):
                self.told(room, memory(512), (), "plan", book=book, plan=plan)

    def test_room(self):
        for room in (0, 7, 9, -8, 2056, 10 ** 400, True, None, "8", (8,), deep(280)):
            self.told(room, memory(512), (), "room")
            self.told(room, None, None, "room")

    def test_bytes(self):
        right = memory(24)
        for thing in NO_THINGS + (right[:-1], right + (0,), right[:8], list(right), "0" * 32, b"0" * 32):
            self.told(24, thing, (), "bytes")
            self.told(24, thing, None, "bytes")
        for byte in (-1, 256, 10 ** 400, True, False, None, "0", (), (0,), deep(270)):
            for place in (0, 8, 31):
                self.told(24, right[:place] + (byte,) + right[place + 1:], (), "bytes")
        self.told(16, right, (), "bytes")

    def test_roots(self):
        right = memory(64)
        for roots in (None, True, 0, 5, "", "ab", 10 ** 400):
            self.told(64, right, roots, "roots")
        for pair in NO_THINGS + ((1,), (1, 8, 8), (True, 8), (1, True), (0, 8), (-1, 8), (None, 8), (1, None), ("1", 8),
                                 (1, "8"), (1, (8,)), (deep(270), 8), "ab", (10 ** 400,)):
            self.told(64, right, (pair,), "roots", 0)
            self.told(64, right, ((1, 8), (2, 16), pair), "roots", 2)
        for handles, root in (((1, 1), 1), ((2, 1), 1), ((0,), 0), ((1, 2, 2), 2), ((5, 9, 7, 10), 2), ((-1, 1), 0),
                              ((1, 0), 1)):
            roots = tuple((handle, 8 + 8 * number) for number, handle in enumerate(handles))
            self.told(64, right, roots, "roots", root)
        self.sound(64, right, ((1, 8), (5, 16), (9, 24)))

    def test_roots_are_looked_at_ahead_of_blocks(self):
        self.told(64, memory(64), ((1, 9), (1, 8)), "roots", 1)
        self.told(64, memory(64, a8=(9,)), ((1, 8), None), "roots", 1)

    def test_address(self):
        for address in (0, 1, 7, 9, 12, 4, 72, 80, -8, 2 ** 15, 10 ** 400, -10 ** 400):
            self.told(64, memory(64), ((1, address),), "address", 0)
            self.told(64, memory(64), ((1, 8), (2, address)), "address", 1)
        self.sound(64, memory(64), ((1, 64),))
        for address in (0, 9, 20, 72, 32767):
            self.told(64, memory(64, a8=cons(1, address)), ((1, 8),), "address", 0, TAIL)
            self.told(64, memory(64, a8=cons(1, 16), a16=cons(1, address)), ((3, 24), (4, 8)), "address", 1, TAIL * 2)

    def test_blocks_end_within_memory(self):
        plan = ((row(3, nat(64)), ("run", 64, 1)), (nat(64), ("slot", 64)))
        for address in (8, 16, 24):
            self.sound(40, memory(40), ((1, address),), (), plan)
        for address in (32, 40, 48):
            self.told(40, memory(40), ((1, address),), "address", 0, (), (), plan)
        self.told(16, memory(16), ((1, 8),), "address", 0, (), (), plan)

    def test_shared(self):
        self.told(64, memory(64), ((1, 8), (2, 8)), "shared", 1)
        self.told(64, memory(64, a8=cons(1, 8)), ((1, 8),), "shared", 0, TAIL)
        self.told(64, memory(64, a8=cons(1, 16), a16=cons(2, 8)), ((1, 8),), "shared", 0, TAIL * 2)
        self.told(64, memory(64, a8=cons(1, 24), a16=cons(2, 24)), ((1, 8), (2, 16)), "shared", 1, TAIL)
        self.told(64, memory(64, a8=cons(1, 24)), ((1, 24), (2, 8)), "shared", 1, TAIL)
        plan = ((row(3, nat(64)), ("run", 64, 1)), (nat(64), ("slot", 64)))
        for address, why in ((8, "shared"), (16, "shared"), (24, "shared"), (32, None), (40, None), (48, None)):
            fault = self.fault(64, memory(64), ((1, 8), (2, address)), (), plan)
            self.assertEqual(fault, None if why is None else (why, 1, ()))
        self.told(64, memory(64), ((1, 32), (2, 16)), "shared", 1, (), (), plan)

    def test_worth(self):
        for tag in (2, 3, 255):
            self.told(64, memory(64, a8=(tag,)), ((1, 8),), "worth", 0)
            self.told(64, memory(64, a8=cons(1, 16), a16=(tag,)), ((1, 8),), "worth", 0, TAIL)
        self.told(64, memory(64, a8=cons(1, 32768)), ((1, 8),), "worth", 0, TAIL)
        self.told(64, memory(64, a8=cons(1, 65535)), ((1, 8),), "worth", 0, TAIL)
        told = memory(64, a8=(0, 2, 0, 32, 0, 0, 0, 0))
        self.told(64, told, ((1, 8),), "worth", 0, (field("n"),), (), FIELDS)
        self.told(64, memory(64, a8=(0, 2, 0, 31)), ((1, 8),), "worth", 0, (field("t"),), (), FIELDS)
        self.told(64, memory(64, a8=(0, 1, 0, 31), a16=(0, 2)), ((1, 8), (2, 16)), "worth", 1, (field("t"),), (),
                  FIELDS)

    def test_gap(self):
        self.told(64, memory(64, a8=(0, 1)), ((1, 8),), "gap", 0)
        self.told(64, memory(64, a8=(1, 4, 0, 0, 16)), ((1, 8),), "gap", 0)
        self.told(64, memory(64, a8=cons(1, 16), a16=(0, 0, 5)), ((1, 8),), "gap", 0, TAIL)
        self.told(64, memory(64, a8=cons(1, 16), a16=(0, 0, 5)), ((2, 24), (4, 8)), "gap", 1, TAIL)
        for place in (14, 15):
            told = list(memory(64))
            told[place] = 128
            self.told(64, tuple(told), ((1, 8),), "gap", 0)
        self.told(64, memory(64, a8=(0, 0, 0, 0, 0, 0, 1)), ((1, 8),), "gap", 0, (), (), FIELDS)
        self.told(64, memory(64, a8=(0, 0, 0, 0, 0, 0, 0, 128)), ((1, 8),), "gap", 0, (), (), FIELDS)
        self.told(64, memory(64, a8=(1, 0, 0, 0, 0, 0, 0, 0)), ((1, 8),), "gap", 0, (), (), FIELDS)

    def test_left(self):
        for place in (0, 7, 16, 71):
            told = list(memory(64))
            told[place] = 1
            self.told(64, tuple(told), ((1, 8),), "left")
            self.told(64, tuple(told), (), "left")
        self.told(64, memory(64, a8=cons(1, 16), a32=(1,)), ((1, 8),), "left")

    def test_the_first_of_several(self):
        """Faults added one by one from the last word on: the first word is told each time."""
        told = list(memory(64, a8=cons(1, 16), a16=cons(2, 24)))
        told[71] = 1
        self.told(64, tuple(told), ((1, 8),), "left")
        told[25] = 1
        self.told(64, tuple(told), ((1, 8),), "gap", 0, TAIL * 2)
        told[24] = 2
        self.told(64, tuple(told), ((1, 8),), "worth", 0, TAIL * 2)
        told[20] = 8
        self.told(64, tuple(told), ((1, 8),), "shared", 0, TAIL * 2)
        told[20] = 9
        self.told(64, tuple(told), ((1, 8),), "address", 0, TAIL * 2)
        told[17] = 1
        self.told(64, tuple(told), ((1, 8),), "gap", 0, TAIL)
        told[16] = 7
        self.told(64, tuple(told), ((1, 8),), "worth", 0, TAIL)
        told[14] = 1
        self.told(64, tuple(told), ((1, 8),), "gap", 0)
        self.told(64, tuple(told), ((1, 8), (1, 8)), "roots", 1)
        told[0] = 256
        self.told(64, tuple(told), ((1, 8), (1, 8)), "bytes")
        self.told(63, tuple(told), None, "room")

    def test_the_first_root_ahead_of_all_else(self):
        told = memory(64, a8=cons(1, 32), a16=(9,))
        self.told(64, told, ((1, 8), (2, 16)), "worth", 1)
        self.told(64, told, ((1, 16), (2, 8)), "worth", 0)
        self.told(64, told, ((1, 8), (2, 9)), "address", 1)

    def test_points_in_their_order(self):
        kind = record(a=box(N8), b=box(N8))
        plan = ((kind, ("fields", 32, ((16, 1, F), (0, 1, F)))), (box(N8), ("point", 2)), (N8, ("slot", 8)))
        self.sound(32, memory(32, a8=(24, 0, 16)), ((1, 8),), (), plan)
        self.told(32, memory(32, a8=(7, 0, 9)), ((1, 8),), "address", 0, (field("a"),), (), plan)
        self.told(32, memory(32, a8=(7, 0, 16)), ((1, 8),), "address", 0, (field("b"),), (), plan)
        self.told(32, memory(32, a8=(16, 0, 16)), ((1, 8),), "shared", 0, (field("b"),), (), plan)
        tree = planned(BOOK, use("tree"))
        store = Store(BOOK, tree, room=96)
        leaf = ("leaf", 5)
        store.fill(("fork", (("fork", (leaf, leaf)), leaf)))
        room, told, roots = store.told()
        left = (arm("fork"), field("l"))
        self.assertEqual([each[0] for each in store.blocks()], [8, 16, 24, 32, 40])
        for places, path in (((33, 41), left + (arm("fork"), field("r"))), ((41,), (arm("fork"), field("r"))),
                             ((25, 33, 41), left * 2)):
            bent = list(told)
            for place in places:
                # A leaf has no bit in its last byte.
                bent[place + 6] = 1
            self.told(room, tuple(bent), roots, "gap", 0, path, BOOK, tree)

    def test_twelve_and_thirteen_boxes(self):
        rows = {f"a{8 * number}": cons(number, 8 * number + 8) for number in range(1, 14)}
        self.told(112, memory(112, **rows), ((1, 8),), "deep", 0, TAIL * 13)
        del rows["a104"]
        self.sound(112, memory(112, **rows), ((1, 8),))
        rows["a104"] = cons(1, 9)
        self.told(112, memory(112, **rows), ((1, 8),), "deep", 0, TAIL * 13)
        rows["a104"] = (5,)
        self.told(112, memory(112, **rows), ((1, 8),), "worth", 0, TAIL * 12)
        store = Store(BOXES, planned(BOXES, TWELVE))
        store.fill(Y)
        self.sound(*store.told(), BOXES, planned(BOXES, TWELVE))
        plan = planned(BOXES, THIRTEEN)
        rows = {f"a{8 * number}": (8 * number + 8,) for number in range(1, 14)}
        self.told(112, memory(112, **rows), ((1, 8),), "deep", 0, (), BOXES, plan)

    def test_far_pointers_are_no_boxes(self):
        def links(many):
            rows = {}
            for number in range(many):
                rows[f"a{8 + 16 * number}"] = ((16 + 16 * number) % 256, (16 + 16 * number) // 256)
                rows[f"a{16 + 16 * number}"] = (7, 0, (24 + 16 * number) % 256, (24 + 16 * number) // 256)
            rows[f"a{8 + 16 * many}"] = (0, 128)
            return memory(512, **rows)

        step = (SOME, field("more"))
        self.sound(512, links(12), ((1, 8),), FAR_BOOK, FAR_LINK)
        self.told(512, links(13), ((1, 8),), "deep", 0, step * 13, FAR_BOOK, FAR_LINK)
        store = adopted(FAR_BOOK, FAR_LINK, 512, links(3), ((1, 8),))
        self.assertEqual(store.worth(1), ((7, ((7, ((7, ()),)),)),))

    def test_a_thousand_parts_and_more(self):
        plan = planned((), PARTS_1000)
        store = Store((), plan, room=2048)
        store.fill((((7,) * 10,) * 10,) * 9)
        self.assertEqual(sizeof((), PARTS_1000, store.worth(1)), 1000)
        self.sound(*store.told(), (), plan)
        plan = planned((), record(r=PARTS_1000))
        self.assertEqual(misfit((), record(r=PARTS_1000), (store.worth(1),)), (field("r"), at(8), at(9), at(9)))
        told = self.laid(plan)
        self.told(2048, told, ((1, 8),), "parts", 0, (), (), plan)
        self.told(2048, told, ((1, 8), (2, 8)), "parts", 0, (), (), plan)
        self.told(2048, told[:-1] + (1,), ((1, 8),), "parts", 0, (), (), plan)
        self.told(2048, told, ((1, 9),), "address", 0, (), (), plan)

    def laid(self, plan):
        """Bytes of a root at 8 and behind it, one behind the other, what its points lead to, all numbers 0."""
        pattern = 0
        end = 8 + block(plan, 0)
        for path, place, wide, word, entry in rows_of(plan, 0, 0):
            self.assertEqual(word, "box")
            pattern += end << place
            end += block(plan, entry)
        self.assertIsNone(patternfault(plan, 0, pattern))
        return tuple((pattern << 64).to_bytes(2056, "little"))

    def test_what_a_store_tells_is_sound(self):
        dice = random.Random(71)
        for each in range(60):
            kind, plan = random_world(dice)
            store = Store(BOOK, plan, room=dice.choice((64, 256, 512)))
            for deed in range(12):
                worth = random_worth(dice, BOOK, kind, dice.randint(0, 4))
                word = dice.choice(("fill", "fill", "free", "together", "write"))
                if word == "fill":
                    refusal(store.fill, worth)
                elif word == "free":
                    refusal(store.free, dice.randint(1, 6))
                elif word == "together":
                    store.together()
                else:
                    path, here = random_path(dice, BOOK, kind)
                    try:
                        refusal(View(store, dice.randint(1, 6), path).write, random_worth(dice, BOOK, here, 2))
                    except ValueError:
                        continue
                self.sound(*store.told(), BOOK, plan)

    def test_bent_bytes(self):
        """Bytes that are let by are just those of their worths."""
        dice = random.Random(73)
        let_by = 0
        for each in range(60):
            kind, plan = random_world(dice)
            store = Store(BOOK, plan, room=256)
            for deed in range(3):
                refusal(store.fill, random_worth(dice, BOOK, kind, 3))
            room, told, roots = store.told()
            for bend in range(25):
                bent = list(told)
                used = [byte for address, many, entry in store.blocks() for byte in range(address, address + many)]
                place = dice.choice(used) if used else 8
                bent[place] = dice.choice((bent[place] ^ 1 << dice.randrange(8), (bent[place] + 8) % 256, 0))
                if self.fault(room, tuple(bent), roots, BOOK, plan) is None:
                    let_by += 1
                    other = adopted(BOOK, plan, room, tuple(bent), roots)
                    self.remade(other, kind, plan, tuple(bent))
        self.assertGreater(let_by, 100)

    def remade(self, store, kind, plan, told):
        """All bytes, told anew from the worths and the addresses."""
        bits = 0
        for handle, address in store.told()[2]:
            self.assertIsNone(misfit(BOOK, kind, store.worth(handle)))
            left = [(imaged(BOOK, plan, store.worth(handle)), address)]
            while left:
                (entry, pattern, images), place = left.pop()
                images = list(images)
                for path, at_bit, wide, word, inner in rows_of(plan, entry, pattern):
                    if word in ("box", "far"):
                        target = told[place + at_bit // 8] + 256 * told[place + at_bit // 8 + 1]
                        pattern += target << at_bit
                        left.append((images.pop(0), target))
                bits += pattern << 8 * place
        self.assertEqual(tuple(bits.to_bytes(len(told), "little")), told)


class AdoptedTest(unittest.TestCase):
    def test_the_same(self):
        store = Store(LIST, LIST_PLAN, room=128)
        for heads in ((1, 2), (), (3,)):
            store.fill(numbers(*heads))
        store.free(2)
        other = adopted(LIST, LIST_PLAN, *store.told())
        self.assertIsInstance(other, Store)
        self.assertTrue(other == store)
        self.assertEqual((other.told(), other.blocks(), other.used()), (store.told(), store.blocks(), store.used()))
        self.assertEqual([other.worth(handle) for handle in (1, 3)], [numbers(1, 2), numbers(3)])
        self.assertEqual([other.image(handle) for handle in (1, 3)], [store.image(1), store.image(3)])
        self.assertEqual((len(other), str(other)), (2, "2 roots, 40 of 128 bytes"))
        self.assertEqual(other.ends(), (0, 0))

    def test_the_next_handle(self):
        for roots, handle in (((), 1), (((1, 8),), 2), (((5, 8), (9, 16)), 10), (((10 ** 300, 8),), 10 ** 300 + 1)):
            store = adopted(LIST, LIST_PLAN, 64, memory(64), roots)
            self.assertEqual(store.fill(NIL), handle)
            self.assertEqual(store.ends(), (1, 1))
        store = adopted(LIST, LIST_PLAN, 64, memory(64), ((5, 8), (9, 16)))
        for handle in (1, 6, 10, True):
            self.assertEqual(refusal(store.worth, handle), ("NoHandle", handle))
        store.free(9)
        self.assertEqual(store.fill(NIL), 10)

    def test_it_goes_on_as_the_store_does(self):
        dice = random.Random(79)
        for each in range(40):
            kind, plan = random_world(dice)
            store = Store(BOOK, plan, room=128)
            for deed in range(5):
                refusal(store.fill, random_worth(dice, BOOK, kind, 2))
            # The last handle stays, as the next one is known by it alone.
            handles = [handle for handle, address in store.told()[2]]
            if len(handles) > 1:
                store.free(dice.choice(handles[:-1]))
            elif not handles:
                continue
            other = adopted(BOOK, plan, *store.told())
            for deed in range(10):
                worth = random_worth(dice, BOOK, kind, 2)
                handle = dice.randint(1, 6)
                path, here = random_path(dice, BOOK, kind)
                word = dice.choice(("fill", "free", "together", "write"))
                if word == "together":
                    self.assertEqual(other.together(), store.together())
                elif word == "write":
                    self.assertEqual(refusal(View(other, handle, path).write, worth),
                                     refusal(View(store, handle, path).write, worth))
                else:
                    told = worth if word == "fill" else handle
                    self.assertEqual(refusal(getattr(other, word), told), refusal(getattr(store, word), told))
                self.assertTrue(other == store)
                self.assertEqual(other.ends(), (deed + 1, deed + 1))

    def test_it_shares_nothing(self):
        store = Store(LIST, LIST_PLAN, room=64)
        store.fill(numbers(1))
        other = adopted(LIST, LIST_PLAN, *store.told())
        other.free(1)
        self.assertEqual(store.worth(1), numbers(1))
        self.assertEqual(len(other), 0)

    def test_refused(self):
        self.assertEqual(refusal(adopted, LIST, LIST_PLAN, 64, memory(64), ((1, 8), (2, 8))),
                         ("BadStore", "shared", 1, ()))
        self.assertEqual(refusal(adopted, LIST, LIST_PLAN, 64, memory(64, a8=cons(1, 9)), ((1, 8),)),
                         ("BadStore", "address", 0, TAIL))
        for thing in NO_THINGS:
            self.assertEqual(refusal(adopted, thing, thing, thing, thing, thing), ("BadStore", "plan", -1, ()))


if __name__ == "__main__":
    unittest.main()
