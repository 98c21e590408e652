"""The look at code: H2, and of H1 what rows there are."""

import unittest

from packedforms.codelook import MOST_ROWS, codefault
from packedforms.images import imaged
from packedforms.maker import planned
from packedforms.plancheck import planfault
from tests.planning import changed, with_form
from tests.test_store import numbers
from tests.things import (BOXES, LIST, LIST8, N8, NONE, NO_THINGS, T, WRONG_BOOK, box, deep, maybe, record, row, use,
                          variant, whole)

BOOK = LIST + BOXES
FRAME = record(n=N8, t=T, r=row(3, N8), v=variant(a=N8, b=T, c=NONE), m=maybe(N8), d=box(N8), u=use("one", T),
               i=whole(9))
PLAN = planned(BOOK, FRAME)
KINDS = [kind for kind, form in PLAN]
E = {name: KINDS.index(kind) for name, kind in FRAME[1]}
NAMES = [name for name, kind in FRAME[1]]
NOTHING = KINDS.index(NONE)
INNER = KINDS.index(box(T))

END = ("end",)
FR = ("frame",)
ONE = ("number", 1)
YES = ("truth", True)
TURN = ("turn", (1, 0))

WORDS = {"turn": ((),), "number": (5,), "truth": (True,), "add": (), "sub": (), "mul": (), "div": (), "rem": (),
         "less": (), "like": (), "not": (), "jump": (1,), "unless": (1,), "frame": (), "field": (0, 0),
         "item": (0,), "arm": (0, 0), "box": (0,), "same": (0,), "probe": (0, 0), "fetch": (0,), "keep": (0,),
         "say": (True,), "show": (0,),
         "put": (0, None), "copy": (0,), "swap": (0,), "end": ()}


def to(name):
    """The rows that go to a field of the frame."""
    return (FR, ("field", 0, NAMES.index(name)))


class CodeTest(unittest.TestCase):
    def right(self, *rows, plan=PLAN, book=BOOK):
        self.assertIsNone(codefault(book, plan, rows))

    def told(self, rows, number, why, plan=PLAN, book=BOOK):
        self.assertEqual(codefault(book, plan, tuple(rows)), (number, why))

    def last(self, rows, why):
        """A fault of the last row, whatever comes behind it; an end row is put there."""
        rows = tuple(rows)
        self.told(rows + (END,), len(rows) - 1, why)
        self.told((TURN,) + rows + (END, END), len(rows), why)

    def test_constant(self):
        self.assertEqual(MOST_ROWS, 50000)

    def test_the_least_code(self):
        self.right(END)
        self.right(TURN, END)
        self.right(TURN, ("jump", 0))

    def test_every_row_word(self):
        image = imaged(BOOK, PLAN, 7, entry=E["n"])
        rows = [TURN, ONE, ("number", -2 ** 64), ("add",), ONE, ("sub",), ONE, ("mul",), ONE, ("div",), ONE, ("rem",),
                ONE, ("less",), ("not",), YES, ("like",), ("unless", 19), ("turn", (7, -7)), ("turn", ())]
        rows += [*to("n"), ("fetch", E["n"]), ("say", False), YES, ("say", True), *to("r"), ("number", 2),
                 ("item", E["r"]), ("show", E["n"]), *to("v"), ("arm", E["v"], 0), ("show", E["n"]), *to("m"),
                 ("arm", E["m"], 1), ("show", E["n"]), *to("m"), ("probe", E["m"], 0), ("say", True), *to("d"),
                 ("box", E["d"]),
                 ("put", E["n"], image), *to("u"), ("same", E["u"]), ("box", INNER), ("fetch", E["t"]), *to("t"),
                 ("keep", E["t"]), *to("n"), *to("n"), ("copy", E["n"]), FR, FR, ("swap", 0), ("jump", 0)]
        self.assertEqual({each[0] for each in rows} | {"end"}, set(WORDS))
        self.right(*rows)
        self.right(*rows[:-1], END)

    def test_plan(self):
        for book, plan in ((WRONG_BOOK, PLAN), (None, PLAN), (BOOK, None), (BOOK, ()), (BOOK, PLAN[:3]), ((), PLAN)):
            self.assertIsNotNone(planfault(book, plan))
            for code in ((END,), None, (), (None,)):
                self.assertEqual(codefault(book, plan, code), (-1, "plan"))
        for thing in NO_THINGS:
            self.assertEqual(codefault(BOOK, thing, (END,)), (-1, "plan"))

    def test_code(self):
        for code in (None, True, 0, "", "end", 10 ** 400, ()):
            self.assertEqual(codefault(BOOK, PLAN, code), (-1, "code"))
        self.right(*(TURN,) * 49999, END)
        self.told((TURN,) * 50000 + (END,), -1, "code")
        self.told((None,) * 50001, -1, "code")
        self.told((None,) * 50000, 0, "form")

    def test_form(self):
        for thing in NO_THINGS + ("end", ("End",), ("ends",), (("end",),), (None,), (True, 1), ["end"], ("set", 1)):
            self.told((thing,), 0, "form")
            self.told((TURN, thing, END), 1, "form")
        for word, things in WORDS.items():
            self.told(((word,) + things + (1,), END), 0, "form")
            if things:
                self.told(((word,) + things[:-1], END), 0, "form")
                self.told(((word,), END), 0, "form")

    def test_form_of_numbers(self):
        for number in (0, 2 ** 64, -2 ** 64):
            self.right(("number", number), END)
        for number in (2 ** 64 + 1, -2 ** 64 - 1, 10 ** 400, True, False, None, "1", (), (1,), deep(270)):
            self.told((("number", number), END), 0, "form")

    def test_form_of_truths(self):
        for truth in (1, 0, None, "True", (), (True,)):
            self.told((("truth", truth), END), 0, "form")
            self.told((YES, ("say", truth), END), 1, "form")
        for truth in (True, False):
            self.right(("truth", truth), ("say", True), END)
            self.right(ONE, ("say", False), ("truth", truth), END)

    def test_form_of_program_places(self):
        for place in ((), (0,), (-5,), (10 ** 400, 1), tuple(range(1000))):
            self.right(("turn", place), END)
        for place in (None, True, 0, "ab", (True,), (1, None), ("a",), ((),), ((1,),), (0, False)):
            self.told((("turn", place), END), 0, "form")

    def test_form_of_rows_and_entries(self):
        for word, things in WORDS.items():
            for place, thing in enumerate(things, start=1):
                if type(thing) is int and word != "number":
                    for other in (True, False, None, "0", (), (0,), deep(270)):
                        self.told((changed((word,) + things, (place,), other), END), 0, "form")

    def test_all_forms_ahead_of_all_else(self):
        self.told((("add",), ("jump", 99), ("field", 99, 99), ("end", 1)), 3, "form")
        self.told((END, None), 1, "form")
        self.told((END, None, None), 1, "form")
        self.told((("add",), ("jump", 99)), 0, "stack")

    def test_lost(self):
        self.told((END, END), 1, "lost")
        self.told((END, TURN, ("jump", 1)), 1, "lost")
        self.told((("jump", 2), TURN, END), 1, "lost")
        self.right(("jump", 1), END)
        self.told((TURN, ("jump", 0), END), 2, "lost")
        # A row to which only a later one goes back.
        self.told((("jump", 3), TURN, END, ("jump", 1)), 1, "lost")
        self.told((END, ("field", 99, 99)), 1, "lost")
        self.told((END, ("add",)), 1, "lost")

    def test_no_such_entry(self):
        for entry in (-1, len(PLAN), 10 ** 400, -10 ** 400):
            for word in ("item", "box", "same", "fetch", "keep", "show", "copy", "swap"):
                self.last(((word, entry),), "entry")
            for word in ("field", "arm", "probe"):
                self.last(((word, entry, 0),), "entry")
            self.last((("put", entry, (0, 0, ())),), "entry")

    def test_entries_of_another_form(self):
        fits = {"field": ("fields",), "item": ("run",), "arm": ("pick",), "probe": ("pick",), "box": ("point",),
                "same": ("same",), "fetch": ("slot",), "keep": ("slot",), "show": None, "copy": None, "swap": None}
        for entry, (kind, form) in enumerate(PLAN):
            for word, words in fits.items():
                one = (word, entry, 0) if word in ("field", "arm", "probe") else (word, entry)
                why = "stack"
                if words is not None and form[0] not in words or entry == NOTHING and word == "field":
                    why = "entry"
                if word == "arm" and entry == E["m"]:
                    why = "entry"
                self.last((one,), why)

    def test_fields_and_arms(self):
        for number in range(-2, 11):
            self.last((("field", 0, number),), "stack" if 0 <= number < 8 else "entry")
            self.last((("arm", E["v"], number),), "stack" if 0 <= number < 3 else "entry")
            self.last((("probe", E["v"], number),), "stack" if 0 <= number < 3 else "entry")
            self.last((("arm", E["m"], number),), "stack" if number == 1 else "entry")
            self.last((("probe", E["m"], number),), "stack" if number in (0, 1) else "entry")
            self.last((("field", NOTHING, number),), "entry")
        for number in (10 ** 400, -10 ** 400):
            for word, entry in (("field", 0), ("arm", E["v"]), ("probe", E["v"])):
                self.last(((word, entry, number),), "entry")

    def test_images(self):
        n, d, v = E["n"], E["d"], E["v"]
        five, boxed = imaged(BOOK, PLAN, 5, entry=n), imaged(BOOK, PLAN, 5, entry=d)
        for entry, image in ((n, five), (d, boxed), (v, imaged(BOOK, PLAN, ("b", True), entry=v))):
            self.last((("put", entry, image),), "stack")
            self.right(*to({n: "n", d: "d", v: "v"}[entry]), ("put", entry, image), END)
        for entry, image in ((d, five), (n, boxed), (n, (n, 256, ())), (n, (n, -1, ())), (n, (d, 5, ())),
                             (d, (d, 1, boxed[2])), (d, (d, 0, ())), (d, (d, 0, (boxed,))), (n, (True, 5, ())),
                             (n, (n, 5, ((n, 5, ()),)))):
            self.last((("put", entry, image),), "entry")
            self.last(to("n") + (("put", entry, image),), "entry")
        for thing in NO_THINGS:
            self.last((("put", n, thing),), "entry")

    def test_images_too_deep(self):
        plan = planned(LIST, LIST8)
        image = imaged(LIST, plan, numbers(*(1,) * 12))
        self.right(FR, ("put", 0, image), END, plan=plan, book=LIST)
        more = (image[0], image[1], (image,))
        self.told((FR, ("put", 0, more), END), 1, "entry", plan, LIST)

    def test_too_little(self):
        for one in (("add",), ("sub",), ("mul",), ("div",), ("rem",), ("less",), ("like",)):
            for ahead in ((), (ONE,)):
                self.last(ahead + (one,), "stack")
            self.right(ONE, ONE, one, END)
        for one in (("not",), ("unless", 0), ("say", True)):
            self.last((one,), "stack")
        self.last((("say", False),), "stack")
        for one in (("field", 0, 0), ("show", 0), ("fetch", E["n"]), ("copy", 0), ("swap", 0)):
            self.last((one,), "stack")
        for word in ("copy", "swap"):
            self.last((FR, (word, 0)), "stack")
            self.right(FR, FR, (word, 0), END)
        self.last((*to("r"), ("item", E["r"])), "stack")
        self.last((ONE, ("item", E["r"])), "stack")
        self.last((*to("n"), ("keep", E["n"])), "stack")
        self.last((ONE, ("keep", E["n"])), "stack")

    def test_another_sort(self):
        for word in ("add", "sub", "mul", "div", "rem", "less"):
            for ahead in ((ONE, YES), (YES, ONE), (YES, YES)):
                self.last(ahead + ((word,),), "stack")
        self.last((ONE, ("not",)), "stack")
        self.last((ONE, ("unless", 2)), "stack")
        self.last((ONE, ("say", True)), "stack")
        self.last((YES, ("say", False)), "stack")
        self.last((YES, *to("r"), ("item", E["r"])), "stack")

    def test_like_takes_two_of_one_sort(self):
        self.right(ONE, ONE, ("like",), ("say", True), END)
        self.right(YES, YES, ("like",), ("say", True), END)
        self.last((ONE, YES, ("like",)), "stack")
        self.last((YES, ONE, ("like",)), "stack")
        self.last((YES, YES, ("like",), ("say", False)), "stack")
        self.last((ONE, ("like",)), "stack")
        self.last((YES, ("like",)), "stack")

    def test_sorts_that_are_put(self):
        for word in ("add", "sub", "mul", "div", "rem"):
            self.right(ONE, ONE, (word,), ("say", False), END)
            self.last((ONE, ONE, (word,), ("say", True)), "stack")
        for ahead in ((ONE, ONE, ("less",)), (ONE, ONE, ("like",)), (YES, ("not",)), (*to("m"), ("probe", E["m"], 0))):
            self.right(*ahead, ("say", True), END)
            self.last(ahead + (("say", False),), "stack")

    def test_slots(self):
        for name, word in (("n", False), ("i", False), ("t", True)):
            entry = E[name]
            self.right(*to(name), ("fetch", entry), ("say", word), END)
            self.last((*to(name), ("fetch", entry), ("say", not word)), "stack")
            self.right(YES if word else ONE, *to(name), ("keep", entry), END)
            self.last((ONE if word else YES, *to(name), ("keep", entry)), "stack")

    def test_another_entry(self):
        for entry in range(len(PLAN)):
            if entry != 0:
                self.last((FR, ("show", entry)), "stack")
            if entry != E["n"]:
                self.last((*to("n"), ("show", entry)), "stack")
        for word in ("copy", "swap"):
            self.last((*to("n"), *to("t"), (word, E["n"])), "stack")
            self.last((*to("t"), *to("n"), (word, E["n"])), "stack")
            self.right(*to("n"), *to("n"), (word, E["n"]), END)
        self.last((*to("n"), ("fetch", E["t"])), "stack")
        self.last((*to("d"), ("fetch", E["n"])), "stack")
        self.last((*to("u"), ("box", INNER)), "stack")

    def test_entries_that_are_gone_to(self):
        self.right(*to("d"), ("box", E["d"]), ("fetch", E["n"]), END)
        self.right(*to("u"), ("same", E["u"]), ("box", INNER), ("fetch", E["t"]), END)
        self.right(*to("v"), ("arm", E["v"], 1), ("fetch", E["t"]), END)
        self.right(*to("v"), ("arm", E["v"], 2), ("show", NOTHING), END)
        self.right(*to("m"), ("arm", E["m"], 1), ("fetch", E["n"]), END)
        self.right(*to("r"), ONE, ("item", E["r"]), ("fetch", E["n"]), END)
        self.last((*to("v"), ("arm", E["v"], 0), ("fetch", E["t"])), "stack")

    def test_far_parts_are_gone_to(self):
        kind = record(f=N8)
        plan = ((kind, ("fields", 16, ((0, 1, True),))), (N8, ("slot", 8)))
        self.right(FR, ("field", 0, 0), ("fetch", 1), END, plan=plan, book=())

    def test_places_left_behind(self):
        image = imaged(BOOK, PLAN, 5, entry=E["n"])
        n = to("n")
        self.right(ONE, YES, *n, ("put", E["n"], image), END)
        self.last((FR, *n, ("put", E["n"], image)), "stack")
        self.last((*n, *n, ("put", E["n"], image)), "stack")
        for word in ("copy", "swap"):
            self.right(ONE, YES, *n, *n, (word, E["n"]), ("say", True), END)
            self.last((FR, *n, *n, (word, E["n"])), "stack")
            self.last((*n, *n, *n, (word, E["n"])), "stack")
        for one in (("fetch", E["n"]), ("show", E["n"])):
            self.right(FR, *n, one, END)
        self.right(ONE, FR, *n, ("keep", E["n"]), END)

    def test_what_stays_on_the_stacks(self):
        self.right(ONE, YES, FR, FR, END)
        self.right(ONE, FR, TURN, END)

    def test_no_row_to_go_to(self):
        for goal in (-1, 3, 99, 10 ** 400, -10 ** 400):
            self.told((TURN, ("jump", goal), END), 1, "jump")
            self.told((YES, ("unless", goal), END), 1, "jump")
        self.told((("jump", 2), END), 0, "jump")
        # Nor is the last one meant by a number below 0, though it is a turn.
        self.told((("jump", -1), TURN), 0, "jump")
        self.told((YES, ("unless", -1), TURN), 1, "jump")
        self.told((TURN, ("jump", 2)), 1, "jump")

    def test_no_row_behind(self):
        self.told((TURN,), 0, "jump")
        self.told((ONE, ("say", False)), 1, "jump")
        self.told((TURN, YES, ("unless", 0)), 2, "jump")
        self.right(TURN, YES, ("unless", 0), END)
        self.told((("add",),), 0, "stack")

    def test_going_back(self):
        self.right(TURN, TURN, ("jump", 0))
        self.right(TURN, TURN, ("jump", 1))
        self.told((ONE, TURN, ("jump", 0)), 2, "jump")
        self.told((TURN, FR, ("show", 0), ("jump", 1)), 3, "jump")
        self.told((("jump", 0),), 0, "jump")
        self.told((TURN, ("jump", 1)), 1, "jump")
        self.told((TURN, YES, ("unless", 2), END), 2, "jump")
        self.told((TURN, YES, ("unless", 1), END), 2, "jump")
        self.right(TURN, YES, ("unless", 3), END)
        self.right(("jump", 1), TURN, YES, ("unless", 1), END)

    def test_unlike(self):
        # Going back with something more on a stack.
        self.told((TURN, ONE, ("jump", 0)), 2, "unlike")
        self.told((TURN, FR, ("jump", 0)), 2, "unlike")
        self.right(ONE, TURN, ("say", False), ONE, ("jump", 1))
        self.told((ONE, TURN, ("say", False), YES, ("jump", 1)), 4, "unlike")
        self.right(FR, TURN, ("show", 0), FR, ("jump", 1))
        self.told((FR, TURN, ("show", 0), *to("n"), ("jump", 1)), 5, "unlike")
        # Two ways to one row.
        self.told((YES, ("unless", 3), ONE, END), 2, "unlike")
        self.right(YES, ("unless", 4), ONE, ("jump", 5), ("number", 2), END)
        self.told((YES, ("unless", 4), ONE, ("jump", 5), YES, END), 4, "unlike")
        self.told((YES, ("unless", 4), FR, ("jump", 5), TURN, END), 4, "unlike")
        self.told((YES, ("unless", 4), ONE, ("jump", 5), FR, END), 4, "unlike")
        self.right(YES, ("unless", 2), END)

    def test_the_row_that_is_named_and_the_one_behind(self):
        self.told((TURN, YES, YES, ("unless", 0), END), 3, "unlike")
        self.told((TURN, YES, ("unless", 5), YES, ("unless", 6), ONE, END), 5, "unlike")
        self.told((TURN, YES, ("unless", 7), YES, YES, ("unless", 7), END, END), 5, "unlike")

    def test_the_order_within_a_row(self):
        n = E["n"]
        # Lost ahead of entry, entry ahead of stack, stack ahead of jump, jump ahead of unlike.
        self.told((END, ("field", 99, 0)), 1, "lost")
        self.told((("fetch", 0),), 0, "entry")
        self.told((("fetch", n),), 0, "stack")
        self.told((("unless", 99),), 0, "stack")
        self.told((TURN, ONE, ("unless", 99)), 2, "stack")
        self.told((TURN, ONE, ("jump", 99)), 2, "jump")
        self.told((TURN, ONE, YES, ("unless", 0)), 3, "jump")
        self.told((TURN, ONE, YES, ("unless", 0), END), 3, "unlike")

    def test_the_first_row_is_told(self):
        self.told((("fetch", E["n"]), ("fetch", 99), END), 0, "stack")
        self.told((TURN, ("fetch", 99), ("add",), END), 1, "entry")
        self.told((TURN, ("jump", 3), ("fetch", 99), ("add",), END), 2, "lost")

    def test_wide_and_high_stacks(self):
        self.right(*(ONE,) * 25000, *(("add",),) * 24999, END)
        self.told((ONE,) * 24000 + (("add",),) * 24000 + (END,), 47999, "stack")
        self.right(*(FR,) * 25000, *(("show", 0),) * 24999, END)
        rows = [one for number in range(16000) for one in (YES, ("unless", 3 * number + 3), TURN)]
        self.right(*rows, END)

    def test_truths_for_numbers_in_codes(self):
        self.told((FR, ("show", False), END), 1, "form")
        self.told((FR, ("field", 0, False), END), 1, "form")
        self.told((("jump", True), END), 0, "form")
        plan = with_form(PLAN, E["t"], ("slot", 1))
        self.right(*to("t"), ("put", E["t"], (E["t"], 1, ())), END, plan=plan)
        self.told((*to("t"), ("put", E["t"], (E["t"], True, ())), END), 2, "entry", plan)

    def test_any_written_thing(self):
        for thing in (deep(280), deep(279, END), (deep(270),), (END, deep(270)), (("put", 0, deep(270)), END),
                      (FR, ("put", 0, deep(270)), END), (("turn", deep(270)), END), (("number", deep(270)), END)):
            told = codefault(BOOK, PLAN, thing)
            self.assertIsNotNone(told)
            self.assertEqual(codefault(BOOK, PLAN, thing), told)


if __name__ == "__main__":
    unittest.main()
