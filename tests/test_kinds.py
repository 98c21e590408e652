"""Written things that are alike, and the texts of kinds: A1, A2, A8."""

import unittest

from packedforms.kinds import alike, shown
from tests.things import I8, N8, NONE, T, box, deep, hole, maybe, nat, record, row, use, variant, whole


class AlikeTest(unittest.TestCase):
    def each_way(self, one, other, told):
        self.assertIs(alike(one, other), told)
        self.assertIs(alike(other, one), told)

    def test_each_sort_with_itself_and_the_others(self):
        things = [None, True, False, 0, 1, -1, 2, 10 ** 600, 10 ** 600 + 1, -10 ** 600, "", "a", "b", "ab", "0", "None",
                  (), (None,), (0,), ("",), (False,), ((),), (1, 2), (2, 1), (1, 2, 3), ((1, 2),), (1, (2,)), ((1,), 2)]
        for here, one in enumerate(things):
            for there, other in enumerate(things):
                self.each_way(one, other, here == there)

    def test_truths_are_no_numbers(self):
        self.each_way(True, 1, False)
        self.each_way(False, 0, False)
        self.each_way((True,), (1,), False)
        self.each_way(("nat", 1), ("nat", True), False)
        self.each_way((3, ("a", (0, (False,)))), (3, ("a", (0, (0,)))), False)
        self.each_way((3, ("a", (0, (False,)))), (3, ("a", (0, (False,)))), True)

    def test_equal_things_that_are_not_the_same_object(self):
        self.each_way(int("9" * 900), int("9" * 900), True)
        self.each_way(int("9" * 1300), int("9" * 1299 + "8"), False)
        self.each_way("".join(["a", "b"]), "ab", True)

    def test_lengths(self):
        self.each_way((), ((),), False)
        self.each_way((1,), 1, False)
        self.each_way((1,), (1, None), False)
        self.each_way((1, 1), (1,), False)
        self.each_way(("a",), "a", False)

    def test_first_and_last_fellows_count(self):
        self.each_way((0, 1, 1), (1, 1, 1), False)
        self.each_way((1, 1, 0), (1, 1, 1), False)
        self.each_way((1, (2, 0), 1), (1, (2, 2), 1), False)

    def test_deep_things(self):
        self.each_way(deep(280), deep(280), True)
        self.each_way(deep(280), deep(279), False)
        self.each_way(deep(280, 1), deep(280, True), False)
        self.each_way(deep(279, (1, "a")), deep(279, (1, "a")), True)
        self.each_way(deep(279, (1, "a")), deep(279, (1, "b")), False)

    def test_many_things(self):
        self.each_way(tuple(range(19000)), tuple(range(19000)), True)
        self.each_way(tuple(range(19000)), tuple(range(18999)) + (0,), False)


class ShownTest(unittest.TestCase):
    def test_each_word(self):
        self.assertEqual(shown(N8), "nat8")
        self.assertEqual(shown(nat(64)), "nat64")
        self.assertEqual(shown(whole(16)), "int16")
        self.assertEqual(shown(T), "truth")
        self.assertEqual(shown(record(a=N8, b=T)), "record(a nat8, b truth)")
        self.assertEqual(shown(variant(a=T)), "variant(a truth)")
        self.assertEqual(shown(row(3, N8)), "row 3 nat8")
        self.assertEqual(shown(maybe(N8)), "maybe nat8")
        self.assertEqual(shown(box(N8)), "box nat8")
        self.assertEqual(shown(use("pair", N8, T)), "pair[nat8, truth]")
        self.assertEqual(shown(use("list")), "list[]")
        self.assertEqual(shown(hole("h")), "?h")

    def test_without_parts(self):
        self.assertEqual(shown(NONE), "record()")
        self.assertEqual(shown(record(only=NONE)), "record(only record())")

    def test_with_holes(self):
        self.assertEqual(shown(record(a=hole("a"), b=use("b", hole("a")))), "record(a ?a, b b[?a])")
        self.assertEqual(shown(row(16, maybe(hole("abc")))), "row 16 maybe ?abc")

    def test_names_that_are_words(self):
        self.assertEqual(shown(use("nat")), "nat[]")
        self.assertEqual(shown(record(truth=use("truth"))), "record(truth truth[])")

    def test_eight_forms_within_one_another(self):
        kind = maybe(box(row(2, record(a=variant(b=use("c", use("d", hole("e"))), f=I8)))))
        self.assertEqual(shown(kind), "maybe box row 2 record(a variant(b c[d[?e]], f int8))")


if __name__ == "__main__":
    unittest.main()
