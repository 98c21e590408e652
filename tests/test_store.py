"""The store: E1 to E3, E5, E6, and of E4 what the store itself does."""

import random
import unittest

from packedforms.blocks import MOST_ROOM, ROOM
from packedforms.images import imaged, weight
from packedforms.maker import planned
from packedforms.plancheck import planfault
from packedforms.plans import block
from packedforms.store import Store
from packedforms.worths import misfit
from tests.simulator import NoRoom, Simulator
from tests.test_images import FIELDS, LIST_PLAN, cons
from tests.things import (LIST, LIST8, N8, N16, NO_THINGS, PARTS_1000, T, WRONG_BOOK, box, deep, maybe, nat, record,
                          refusal, row, use, variant)
from tests.worlds import BOOK, random_world, random_worth

F, Y = False, True
NIL = ("nil", ())


def numbers(*heads):
    """A worth of a list of these."""
    worth = NIL
    for head in heads[::-1]:
        worth = ("cons", (head, worth))
    return worth


def memory(room, **rows):
    """All bytes of a room: those at told addresses, all others 0."""
    told = [0] * (room + 8)
    for name, row in rows.items():
        at = int(name[1:])
        told[at:at + len(row)] = row
    return tuple(told)


# A record of just 24 bytes, and one of 8 with two boxes.
WIDE = ((row(3, ("nat", 64)), ("run", 64, 1)), (("nat", 64), ("slot", 64)))


class MakingTest(unittest.TestCase):
    def test_constants(self):
        self.assertEqual((ROOM, MOST_ROOM), (512, 2048))

    def test_rooms(self):
        for room in (8, 16, 504, 512, 2040, 2048):
            store = Store((), FIELDS, room=room)
            self.assertEqual(store.told(), (room, (0,) * (room + 8), ()))
        self.assertEqual(Store((), FIELDS).told(), (512, (0,) * 520, ()))

    def test_wrong_rooms(self):
        for room in (0, 7, 9, 12, 2049, 2056, -8, 10 ** 400, True, False, None, "8", (8,), (), deep(280)):
            self.assertEqual(refusal(Store, (), FIELDS, room=room), ("BadStore", "room", -1, ()))

    def test_bad_plans_ahead_of_rooms(self):
        for book, plan in (((), None), (WRONG_BOOK, FIELDS), ((), FIELDS[:2]), (None, None), (LIST, ()),
                           ((), deep(280)),
                           ((), ((T, ("slot", 3)),)), (deep(280), FIELDS)):
            for room in (512, 7, None):
                self.assertEqual(refusal(Store, book, plan, room=room), ("BadPlan",) + planfault(book, plan))
            self.assertEqual(refusal(Store, book, plan), ("BadPlan",) + planfault(book, plan))

    def test_a_new_store(self):
        store = Store(LIST, LIST_PLAN, room=64)
        self.assertEqual((store.used(), store.blocks(), store.ends(), len(store)), (0, (), (0, 0), 0))
        self.assertEqual(store.together(), 0)


class FillTest(unittest.TestCase):
    def test_bits_and_bytes(self):
        store = Store((), FIELDS, room=16)
        self.assertEqual(store.fill((31, Y, 258)), 1)
        self.assertEqual(store.told(), (16, memory(16, a8=(0, 1, 0, 31, 2, 1, 0, 0)), ((1, 8),)))
        self.assertEqual(store.fill((0, F, 65535)), 2)
        self.assertEqual(store.told(), (16, memory(16, a8=(0, 1, 0, 31, 2, 1, 0, 0, 0, 0, 0, 0, 255, 255, 0, 0)),
                                        ((1, 8), (2, 16))))

    def test_points_have_addresses(self):
        store = Store(LIST, LIST_PLAN, room=64)
        store.fill(NIL)
        self.assertEqual(store.fill(numbers(5, 6)), 2)
        self.assertEqual(store.told(), (64, memory(64, a16=(1, 0, 5, 0, 24, 0, 0, 0, 1, 0, 6, 0, 32, 0, 0, 0)),
                                        ((1, 8), (2, 16))))
        self.assertEqual(store.blocks(), ((8, 8, 0), (16, 8, 0), (24, 8, 0), (32, 8, 0)))

    def test_what_is_kept(self):
        store = Store(LIST, LIST_PLAN, room=64)
        for worth in (numbers(1, 2, 3), NIL, numbers(255)):
            handle = store.fill(worth)
            self.assertEqual(store.worth(handle), worth)
            self.assertEqual(store.image(handle), imaged(LIST, LIST_PLAN, worth))
        self.assertEqual(store.image(1), cons(1, cons(2, cons(3, (0, 0, ())))))

    def test_handles(self):
        store = Store((), FIELDS, room=24)
        self.assertEqual([store.fill((0, F, 0)) for each in range(3)], [1, 2, 3])
        self.assertEqual(refusal(store.fill, (0, F, 0)), ("Full", 8, 0))
        self.assertEqual(refusal(store.fill, None), ("Misfit", ()))
        store.free(2)
        store.free(3)
        self.assertEqual(store.fill((1, F, 0)), 4)
        store.free(1)
        self.assertEqual([store.fill((2, F, 0)) for each in range(2)], [5, 6])
        self.assertEqual([handle for handle, address in store.told()[2]], [4, 5, 6])

    def test_no_handle(self):
        store = Store((), FIELDS)
        for each in range(3):
            store.fill((0, F, 0))
        store.free(2)
        things = NO_THINGS + (4, 2, 10 ** 400, (1,), "1", deep(280, 1))
        for thing in [thing for thing in things if thing is True or thing != 1]:
            for call in (store.worth, store.image, store.free):
                told = refusal(call, thing)
                self.assertEqual(told, ("NoHandle", thing))
                self.assertIs(type(told[1]), type(thing))
        self.assertEqual([handle for handle, address in store.told()[2]], [1, 3])

    def test_misfit(self):
        store = Store(LIST, LIST_PLAN, room=8)
        store.fill(NIL)
        for worth in NO_THINGS + (numbers(256), numbers(1, 2, "3"), ("cons", (1, ())), numbers(*range(13)),
                                  numbers(*range(300))):
            before = store.told()
            path = misfit(LIST, LIST8, worth)
            self.assertIsNotNone(path)
            self.assertEqual(refusal(store.fill, worth), ("Misfit", path))
            self.assertEqual(store.told(), before)
        self.assertEqual(refusal(store.fill, numbers(1)), ("Full", 16, 0))

    def test_a_thousand_parts(self):
        plan = planned((), PARTS_1000)
        store = Store((), plan, room=2048)
        worth = (((7,) * 10,) * 10,) * 9
        self.assertEqual(store.worth(store.fill(worth)), worth)
        kind = row(10, box(row(10, row(10, N8))))
        store = Store((), planned((), kind), room=2048)
        worth = (((7,) * 10,) * 10,) * 10
        self.assertEqual(refusal(store.fill, worth), ("Misfit", misfit((), kind, worth)))

    def test_full_just_above_what_is_left(self):
        for many in range(5):
            store = Store(LIST, LIST_PLAN, room=40)
            store.fill(numbers(*range(many)))
            rest = 40 - 8 * (many + 1)
            for more in range(7):
                other = store.twin()
                told = refusal(other.fill, numbers(*range(more)))
                need = 8 * (more + 1)
                self.assertEqual(told, ("Full", need, rest) if need > rest else None)
                if need > rest:
                    self.assertEqual((other.told(), other.blocks()), (store.told(), store.blocks()))
                    self.assertEqual(refusal(other.fill, None), ("Misfit", ()))
                    if rest:
                        self.assertEqual(other.fill(NIL), 2)

    def test_free_gives_back(self):
        store = Store(LIST, LIST_PLAN, room=64)
        for heads in ((1, 2), (3,), (4, 5)):
            store.fill(numbers(*heads))
        self.assertIsNone(store.free(2))
        self.assertEqual(store.blocks(), ((8, 8, 0), (16, 8, 0), (24, 8, 0), (48, 8, 0), (56, 8, 0), (64, 8, 0)))
        self.assertEqual(store.told()[1][32:48], (0,) * 16)
        self.assertEqual((store.worth(1), store.worth(3)), (numbers(1, 2), numbers(4, 5)))
        self.assertEqual(refusal(store.free, 2), ("NoHandle", 2))
        store.free(1)
        store.free(3)
        self.assertEqual(store.told(), (64, (0,) * 72, ()))


class TakingTest(unittest.TestCase):
    def test_first_fit(self):
        store = Store(LIST, LIST_PLAN, room=64)
        for heads in ((), (1,), (), (2, 3)):
            store.fill(numbers(*heads))
        store.free(1)
        store.free(3)
        self.assertEqual([row[0] for row in store.blocks()], [16, 24, 40, 48, 56])
        store.fill(numbers(7, 8))
        self.assertEqual(store.told()[2], ((2, 16), (4, 40), (5, 8)))
        self.assertEqual(store.told()[1][8:16], (1, 0, 7, 0, 32, 0, 0, 0))
        self.assertEqual(store.told()[1][32:40], (1, 0, 8, 0, 64, 0, 0, 0))

    def test_gaps_that_are_too_short(self):
        kind = record(a=box(WIDE[0][0]), b=box(T))
        plan = planned((), kind)
        self.assertEqual([block(plan, entry) for entry in range(6)], [8, 8, 24, 8, 8, 8])
        store = Store((), plan, room=128)
        for each in range(3):
            store.fill(((1, 2, each), Y))
        self.assertEqual([row[:2] for row in store.blocks()], [(8, 8), (16, 24), (40, 8), (48, 8), (56, 24), (80, 8),
                                                              (88, 8), (96, 24), (120, 8)])
        store.free(2)
        store.fill(((9, 9, 9), F))
        self.assertEqual(store.told()[2], ((1, 8), (3, 88), (4, 48)))
        self.assertEqual(store.worth(4), ((9, 9, 9), F))

    def test_an_images_own_block_goes_ahead(self):
        plan = planned(BOOK, use("tree"))
        store = Store(BOOK, plan, room=96)

        def leaf(number):
            return ("leaf", number)

        worth = ("fork", (("fork", (leaf(1), leaf(2))), ("fork", (leaf(3), leaf(4)))))
        self.assertEqual(store.fill(worth), 1)
        # Forks and leaves in preorder, one behind the other.
        places = [row[0] for row in store.blocks()]
        self.assertEqual(places, list(range(8, 64, 8)))
        heads = [store.told()[1][place:place + 4] for place in places]
        point = [[place + 8, 0, place + 16, 0] for place in places]
        self.assertEqual([list(heads[0]), list(heads[1]), list(heads[4])],
                         [[16, 0, 40, 0], point[1], point[4]])
        self.assertEqual(store.worth(1), worth)

    def fragmented(self):
        """A list, then a wide thing behind gaps of 16 bytes, so that 24 bytes have no address of their own."""
        kind = ("variant", (("small", ("record", ())), ("two", box(box(T))), ("wide", box(WIDE[0][0]))))
        plan = planned((), kind)
        store = Store((), plan, room=64)
        for each in range(8):
            store.fill(("small", ()))
        for handle in (1, 2, 4, 6, 7):
            store.free(handle)
        return store

    def test_a_fill_that_moves_all_together(self):
        store = self.fragmented()
        self.assertEqual([row[0] for row in store.blocks()], [24, 40, 64])
        twin = store.twin()
        self.assertEqual(store.fill(("wide", (1, 2, 3))), 9)
        self.assertEqual(store.told()[2], ((3, 8), (5, 16), (8, 24), (9, 32)))
        self.assertEqual([row[:2] for row in store.blocks()], [(8, 8), (16, 8), (24, 8), (32, 8), (40, 24)])
        self.assertEqual(store.worth(9), ("wide", (1, 2, 3)))
        self.assertEqual(twin.fill(("two", Y)), 9)
        self.assertEqual(twin.told()[2], ((3, 24), (5, 40), (8, 64), (9, 8)))

    def test_a_fill_that_is_too_much_moves_nothing(self):
        store = self.fragmented()
        for each in range(2):
            store.fill(("small", ()))
        before = store.told()
        self.assertEqual(refusal(store.fill, ("wide", (1, 2, 3))), ("Full", 32, 24))
        self.assertEqual(store.told(), before)

    def test_together(self):
        store = Store(LIST, LIST_PLAN, room=96)
        for heads in ((1, 2), (3,), (4, 5), ()):
            store.fill(numbers(*heads))
        self.assertEqual(store.together(), 0)
        store.free(2)
        before = [row[1:] for row in store.blocks()]
        self.assertEqual(store.together(), 4)
        self.assertEqual([row[1:] for row in store.blocks()], before)
        self.assertEqual([row[0] for row in store.blocks()], [8, 16, 24, 32, 40, 48, 56])
        self.assertEqual(store.told()[2], ((1, 8), (3, 32), (4, 56)))
        self.assertEqual([store.worth(handle) for handle in (1, 3, 4)], [numbers(1, 2), numbers(4, 5), NIL])
        self.assertEqual(store.told()[1][64:], (0,) * 40)
        self.assertEqual(store.together(), 0)
        store.free(1)
        self.assertEqual(store.together(), 4)
        self.assertEqual(store.together(), 0)
        self.assertEqual(Store(LIST, LIST_PLAN).together(), 0)

    def test_blocks_in_another_order_than_handles(self):
        store = Store(LIST, LIST_PLAN, room=64)
        for heads in ((), (1,), ()):
            store.fill(numbers(*heads))
        store.free(1)
        store.fill(numbers(2, 3))
        store.free(3)
        self.assertEqual([row[0] for row in store.blocks()], [8, 16, 24, 40, 48])
        self.assertEqual(store.together(), 2)
        self.assertEqual(store.told()[2], ((2, 16), (4, 8)))
        self.assertEqual((store.worth(2), store.worth(4)), (numbers(1), numbers(2, 3)))


class TellingTest(unittest.TestCase):
    def test_texts(self):
        store = Store(LIST, LIST_PLAN)
        self.assertEqual(str(store), "0 roots, 0 of 512 bytes")
        store.fill(NIL)
        self.assertEqual(str(store), "1 roots, 8 of 512 bytes")
        store.fill(numbers(1, 2, 3, 4))
        self.assertEqual(str(store), "2 roots, 48 of 512 bytes")
        self.assertEqual(str(Store(LIST, LIST_PLAN, room=2048)), "0 roots, 0 of 2048 bytes")

    def test_used_blocks_len(self):
        store = Store((), WIDE, room=72)
        for many in range(4):
            self.assertEqual((store.used(), len(store)), (24 * many, many))
            self.assertEqual(store.blocks(), tuple((8 + 24 * each, 24, 0) for each in range(many)))
            if many < 3:
                store.fill((1, 2, 3))
        self.assertEqual(refusal(store.fill, (1, 2, 3)), ("Full", 24, 0))
        store.free(2)
        self.assertEqual((store.used(), len(store), store.blocks()), (48, 2, ((8, 24, 0), (56, 24, 0))))
        self.assertEqual(refusal(store.fill, (1, 2, 2 ** 64)), ("Misfit", (("at", 2),)))
        self.assertEqual((store.used(), len(store), store.blocks()), (48, 2, ((8, 24, 0), (56, 24, 0))))

    def test_entries_of_blocks(self):
        plan = planned((), record(a=box(N16), b=box(box(T))))
        store = Store((), plan)
        store.fill((7, Y))
        kinds = [plan[entry][0] for address, many, entry in store.blocks()]
        self.assertEqual(kinds, [record(a=box(N16), b=box(box(T))), N16, box(T), T])

    def test_told_stays_as_it_was_told(self):
        store = Store(LIST, LIST_PLAN, room=64)
        store.fill(numbers(1, 2))
        store.fill(NIL)
        said = (store.told(), store.blocks(), store.ends(), store.image(1), store.worth(1), str(store))
        copy = (store.told(), store.blocks(), store.ends(), store.image(1), store.worth(1), str(store))
        store.free(1)
        store.together()
        store.fill(numbers(9, 9, 9))
        self.assertEqual(said, copy)
        self.assertNotEqual(said[0], store.told())

    def test_equal(self):
        one, other = Store(LIST, LIST_PLAN), Store(LIST, LIST_PLAN)
        self.assertIs(one == other, True)
        one.fill(numbers(1, 2))
        self.assertIs(one == other, False)
        self.assertIs(one != other, True)
        other.fill(numbers(1, 2))
        self.assertIs(one == other, True)
        self.assertTrue(one == one)
        self.assertFalse(Store(LIST, LIST_PLAN, room=8) == Store(LIST, LIST_PLAN, room=16))

    def test_equal_by_handles_and_addresses(self):
        one, other = Store(LIST, LIST_PLAN), Store(LIST, LIST_PLAN)
        one.fill(NIL)
        other.free(other.fill(NIL))
        other.fill(NIL)
        self.assertFalse(one == other)
        one.free(1)
        one.fill(NIL)
        self.assertTrue(one == other)

    def test_equal_whatever_the_deeds(self):
        one, other = Store(LIST, LIST_PLAN), Store(LIST, LIST_PLAN)
        one.together()
        refusal(one.fill, None)
        self.assertTrue(one == other)
        self.assertNotEqual(one.ends(), other.ends())

    def test_equal_with_other_books(self):
        other_book = (LIST[0], ("other", (), T))
        one, other = Store(LIST, LIST_PLAN), Store(other_book, LIST_PLAN)
        self.assertTrue(one == other)
        for store in (one, other):
            store.fill(numbers(1))
        self.assertTrue(one == other)

    def test_unlike_with_other_plans(self):
        one = Store((), ((T, ("slot", 8)),))
        other = Store((), ((T, ("slot", 1)),))
        self.assertEqual(one.told(), other.told())
        self.assertFalse(one == other)
        self.assertFalse(Store((), ((N8, ("slot", 8)),)) == one)
        self.assertFalse(Store((), FIELDS) == Store((), FIELDS + ((N8, ("slot", 8)),)))

    def test_twin(self):
        store = Store(LIST, LIST_PLAN, room=64)
        store.fill(numbers(1, 2))
        store.fill(NIL)
        store.free(2)
        twin = store.twin()
        self.assertTrue(twin == store)
        self.assertIsInstance(twin, Store)
        self.assertEqual(twin.ends(), (3, 3))
        self.assertEqual((twin.blocks(), twin.used(), str(twin)), (store.blocks(), store.used(), str(store)))
        before = store.told()
        self.assertEqual(twin.fill(numbers(7)), 3)
        twin.free(1)
        twin.together()
        self.assertEqual((store.told(), store.ends()), (before, (3, 3)))
        self.assertEqual(twin.ends(), (6, 6))
        self.assertEqual(store.worth(1), numbers(1, 2))
        self.assertEqual(store.fill(numbers(8, 8)), 3)
        self.assertEqual((store.worth(3), twin.worth(3)), (numbers(8, 8), numbers(7)))
        self.assertEqual(refusal(twin.worth, 1), ("NoHandle", 1))

    def test_ends(self):
        store = Store(LIST, LIST_PLAN, room=16)
        calls = [(store.fill, (NIL,)), (store.fill, (None,)), (store.fill, (numbers(1, 2),)), (store.free, (5,)),
                 (store.free, (1,)), (store.together, ()), (store.free, (1,)), (store.fill, (numbers(1),)),
                 (store.together, ()), (store.fill, (NIL,)), (store.free, (deep(280),)), (store.fill, (deep(280),))]
        for number, (call, told) in enumerate(calls, start=1):
            refusal(call, *told)
            self.assertEqual(store.ends(), (number, number))
        for call, told in ((store.worth, (1,)), (store.image, (1,)), (store.worth, (2,)), (store.used, ()),
                           (store.blocks, ()), (store.told, ()), (store.twin, ()), (store.ends, ()), (len, (store,)),
                           (str, (store,))):
            refusal(call, *told)
            self.assertEqual(store.ends(), (len(calls), len(calls)))

    def test_two_stores_share_nothing(self):
        one, other = Store(LIST, LIST_PLAN, room=64), Store(LIST, LIST_PLAN, room=64)
        for each in range(3):
            one.fill(numbers(each))
        self.assertEqual((other.told(), other.blocks(), other.ends()), ((64, (0,) * 72, ()), (), (0, 0)))
        other.fill(numbers(9))
        one.free(1)
        self.assertEqual((other.worth(1), one.worth(2)), (numbers(9), numbers(1)))


class HistoriesTest(unittest.TestCase):
    """Random histories beside a store told by hand: each block, each byte."""

    def alike(self, store, simulator, worths, ends):
        self.assertEqual(store.told(), simulator.told())
        self.assertEqual(store.blocks(), simulator.blocks())
        self.assertEqual(store.used(), simulator.used())
        self.assertEqual(len(store), len(worths))
        self.assertEqual(store.ends(), (ends, ends))
        self.assertEqual(str(store), f"{len(worths)} roots, {simulator.used()} of {simulator.room} bytes")
        for handle, worth in worths.items():
            self.assertEqual(store.worth(handle), worth)
            self.assertEqual(store.image(handle), simulator.images[handle])

    def some_worth(self, dice, kind, plan, rest):
        """A worth of the kind; often the one, of several, that leaves the least room."""
        worths = [random_worth(dice, BOOK, kind, dice.randint(0, 4)) for each in range(8)]
        right = [worth for worth in worths if misfit(BOOK, kind, worth) is None]
        weights = {weight(plan, imaged(BOOK, plan, worth)): worth for worth in right}
        fitting = [need for need in weights if need <= rest]
        return weights[max(fitting)] if fitting and dice.random() < 0.7 else worths[0]

    def history(self, dice, kind, plan, room, deeds):
        store, simulator, worths, moves = Store(BOOK, plan, room=room), Simulator(BOOK, plan, room), {}, 0
        for ends in range(1, deeds + 1):
            deed = dice.choices(("fill", "free", "together"), (10, 7, 1))[0]
            if deed == "together":
                self.assertEqual(store.together(), simulator.together())
            elif deed == "free" and worths:
                handle = dice.choice(sorted(worths))
                store.free(handle)
                simulator.free(handle)
                del worths[handle]
            else:
                worth = self.some_worth(dice, kind, plan, room - simulator.used())
                if misfit(BOOK, kind, worth) is not None:
                    self.assertEqual(refusal(store.fill, worth), ("Misfit", misfit(BOOK, kind, worth)))
                else:
                    try:
                        before = simulator.told()
                        handle = simulator.fill(worth)
                        moves += simulator.told()[2][:-1] != before[2]
                    except NoRoom as why:
                        self.assertEqual(refusal(store.fill, worth), ("Full",) + why.args)
                        self.assertEqual(why.args[0], weight(plan, imaged(BOOK, plan, worth)))
                    else:
                        self.assertEqual(store.fill(worth), handle)
                        worths[handle] = worth
            self.alike(store, simulator, worths, ends)
        return moves

    def test_histories(self):
        dice = random.Random(5)
        moves = 0
        for each in range(25):
            kind, plan = random_world(dice)
            moves += self.history(dice, kind, plan, dice.choice((64, 128, 256, 512)), 12)
        for kind in (use("tree"), LIST8, use("chain"), maybe(record(a=box(row(3, nat(64))), b=box(box(T))))):
            for room in (64, 120):
                moves += self.history(dice, kind, planned(BOOK, kind), room, 25)
        # Blocks of several lengths, so that there are gaps in which none of the others has room.
        lengths = variant(two=box(row(2, nat(64))), five=box(row(5, nat(64))), nine=box(row(9, nat(64))))
        for kind in (lengths, row(2, variant(one=box(T), two=box(row(2, nat(64))), six=box(row(6, nat(64)))))):
            for room in (120, 200, 304):
                moves += self.history(dice, kind, planned(BOOK, kind), room, 80)
        self.assertGreater(moves, 4)


if __name__ == "__main__":
    unittest.main()
