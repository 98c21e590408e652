"""The compiler: H4. What compiled code does beside the walk is in test_machine."""

import random
import unittest

from packedforms.codelook import MOST_ROWS, codefault
from packedforms.compiler import compiled
from packedforms.maker import planned
from packedforms.plancheck import planfault
from packedforms.programs import programfault
from tests.scripts import random_frame, random_program
from tests.test_images import FAR_BOOK, FAR_LINK
from tests.test_paths import SOME, arm, at, field
from tests.test_programs import BOOK, FRAME, G, I, L, M, N, NO, ONE, R, SAY, T_AT, V, YES, get
from tests.test_walker import HEAD, TAIL, moved, number
from tests.things import (BOXES, LIST, LIST8, N8, NONE, NO_THINGS, T, TWELVE, WRONG_BOOK, box, hole, maybe, nat, record,
                          refusal, row, use, variant)
from tests.worlds import BOOK as WORLD, wild_plan

WISHES = [{"order": order, "spare": spare, "bits": bits, "great": great} for order in ("least", "falling", "told")
          for spare in (True, False) for bits in (True, False) for great in (16, 128, 4096)]

# Each statement and each expression at least once.
ALL_ROWS = (
    ("set", R + (at(get(N)),),
     ("add", ("sub", get(I), ONE), ("mul", get(N), ("div", number(9), ("rem", get(I), ONE))))),
    ("set", T_AT, ("or", ("and", ("less", get(N), ONE), ("not", get(T_AT))), ("like", YES, ("is", M, "none")))),
    ("put", V, ("b", True)), ("put", L, ("cons", (3, ("nil", ())))), ("copy", L, L + TAIL), ("swap", N, L + HEAD),
    ("say", ("like", get(N), get(M + (SOME,)))), ("say", ("add", get(L + HEAD), ONE)), ("show", G + (at(ONE), at(ONE))),
    ("if", ("is", V, "c"), (SAY, ("show", L)), (("if", NO, (), (SAY,)),)),
    ("while", ("less", get(N), number(9)), (("set", N, ("add", get(N), ONE)), ("while", NO, (SAY,)))),
    ("pick", V, (("a", (("show", V + (arm("a"),)),)), ("b", ()),
                 ("c", (SAY, ("pick", M, (("none", ()), ("some", ()))))))),
    ("pick", M, (("none", (SAY,)), ("some", (("show", M + (SOME,)),)))),
    ("pick", L, (("nil", ()), ("cons", ()))),
)


def places_of(rows, at_place=(1,)):
    """The places of all statements, in the order in which they are written."""
    places = []
    for place, statement in enumerate(rows):
        here = at_place + (place,)
        places.append(here)
        if statement[0] in ("if", "while"):
            for inner in range(2, len(statement)):
                places += places_of(statement[inner], here + (inner,))
        if statement[0] == "pick":
            for pair, (name, inner) in enumerate(statement[2]):
                places += places_of(inner, here + (2, pair, 1))
    return places


def sum_of(expressions):
    """One expression that adds all these, as flat as may be."""
    while len(expressions) > 1:
        pairs = [("add", *expressions[place:place + 2]) for place in range(0, len(expressions) - 1, 2)]
        expressions = pairs + expressions[len(pairs) * 2:]
    return expressions[0]


def counted(thing):
    """How many expressions and steps of places there are in written rows, told by their words."""
    counts = {"expressions": 0, "steps": 0}
    left = [thing]
    while left:
        here = left.pop()
        if isinstance(here, tuple) and here:
            if here[0] in ("number", "truth", "not", "get", "add"):
                counts["expressions"] += 1
            if here[0] in ("field", "arm", "at"):
                counts["steps"] += 1
            left.extend(here)
    return counts


class CompiledTest(unittest.TestCase):
    def code(self, rows, frame=FRAME, book=BOOK, plan=None):
        program = (frame, rows)
        self.assertIsNone(programfault(book, program))
        plan = planned(book, frame) if plan is None else plan
        code = compiled(book, plan, program)
        self.assertIs(type(code), tuple)
        self.assertIsNone(codefault(book, plan, code))
        self.assertEqual(compiled(book, plan, program), code)
        turns = [one[1] for one in code if one[0] == "turn"]
        self.assertEqual(sorted(turns), sorted(places_of(rows)))
        return code

    def test_nothing(self):
        self.code(())
        self.code((), NONE)

    def test_each_statement_by_itself(self):
        for statement in ALL_ROWS:
            self.code((statement,))
            self.code((("if", YES, (statement,), (statement,)),))

    def test_all_statements_under_plans_of_every_wish(self):
        for wishes in WISHES:
            self.code(ALL_ROWS, plan=planned(BOOK, FRAME, **wishes))

    def test_a_while_goes_back_onto_its_own_turn(self):
        code = self.code((SAY, ("while", YES, (SAY, SAY)), SAY))
        turns = [place for place, one in enumerate(code) if one == ("turn", (1, 1))]
        self.assertEqual(len(turns), 1)
        back = [one[1] for place, one in enumerate(code) if one[0] in ("jump", "unless") and one[1] <= place]
        self.assertEqual(back, turns)

    def test_each_statement_begins_with_its_turn(self):
        code = self.code((SAY, SAY))
        self.assertEqual(code[0], ("turn", (1, 0)))
        self.assertIn(("turn", (1, 1)), code)

    def test_far_parts_hosts_boxes_and_uses(self):
        frame = record(a=use("link"), b=use("link"))
        plan = ((frame, ("fields", 32, ((0, 1, False), (16, 1, True)))),)
        plan += tuple((kind, moved(form)) for kind, form in FAR_LINK)
        self.assertIsNone(planfault(FAR_BOOK, plan))
        a, more = (field("a"),), (SOME, field("more"))
        rows = (("copy", (field("b"),), a + more), ("put", a, ((5, ()),)), ("swap", a, (field("b"),)),
                ("show", a + more), ("set", a + more + (SOME, field("n")), ONE),
                ("pick", a, (("none", (SAY,)), ("some", (("show", a),)))))
        self.code(rows, frame, FAR_BOOK, plan)
        self.code((("set", (field("x"),), YES), ("show", (field("x"),))), record(x=TWELVE), BOXES)

    def test_random_programs_under_random_plans(self):
        dice = random.Random(101)
        for each in range(120):
            frame = random_frame(dice)
            plan = wild_plan(dice, WORLD, frame)
            program = random_program(dice, WORLD, frame)
            if plan is not None:
                self.code(program[1], frame, WORLD, plan)

    def test_at_the_bounds(self):
        """40 statements, 120 expressions and 240 steps, all at once, with picks of eight arms."""
        arms = {name: NONE for name in "abcdefgh"}
        frame = record(r=row(2, row(2, row(2, row(2, variant(**arms))))), n=nat(1), l=LIST8)
        n = get((field("n"),))
        tree = ("add", ("add", n, n), ("add", n, n))
        pairs = tuple((name, (SAY,)) for name in "abcdefgh")
        place = (field("r"), at(tree), at(n), at(n), at(n))
        # 9 statements, 8 + 7 + 3 expressions, 5 + 7 steps each; one expression more in the last one.
        rows = (("pick", place, pairs),) * 3 + (("pick", place, pairs[:7] + (("h", (("say", ("not", YES)),)),)),)
        far = (field("l"),) + TAIL * 3 + (arm("cons"),)
        self.assertEqual(len(far), 8)
        # 1 statement, 0 expressions, 16 steps each.
        rows += (("swap", far, far),) * 3
        # 1 statement, 47 expressions, 144 steps.
        inner = (field("l"),) + TAIL * 2 + HEAD
        self.assertEqual(len(inner), 7)
        rows += (("say", sum_of([get(inner)] * 20 + [n] * 4)),)
        self.assertEqual(len(places_of(rows)), 40)
        self.assertEqual(programfault(LIST, (frame, rows + (SAY,))), ((1, 8), "many"))
        self.assertEqual(counted(rows), {"expressions": 120, "steps": 240})
        self.code(rows, frame, LIST)

    def test_forty_statements(self):
        self.code((SAY,) * 40)
        inner = ("while", YES, (("while", YES, (("while", YES, (SAY,)),)),))
        self.code((inner,) * 10)

    def test_120_expressions(self):
        rows = tuple(("say", sum_of([ONE] * many)) for many in (17, 17, 17, 8, 2, 2))
        self.assertEqual(counted(rows), {"expressions": 120, "steps": 0})
        self.code(rows)
        self.assertEqual(programfault(BOOK, (FRAME, rows + (SAY,))), ((1, 6, 1), "many"))

    def test_240_steps(self):
        place = L + TAIL * 3 + (arm("cons"),)
        self.code((("show", place),) * 30)
        self.code((("swap", place, place),) * 15 + (SAY,) * 25)

    def long_book(self, per, rows):
        """A book whose a leads through six boxes and six times as many uses as told to a record that leads on to it."""
        names = "abcdef"
        book = [("id", ("x",), hole("x"))]
        for place, name in enumerate(names):
            kind = box(use(names[place + 1] if place < 5 else "last"))
            for each in range(per):
                kind = use("id", kind)
            book.append((name, (), kind))
        choice = variant(**{name: T for name in "abcdefgh"})
        for many in rows:
            choice = row(many, choice)
        return tuple(book) + (("last", (), record(n=nat(4), next=use("a"), r=choice)),)

    def test_long_ways(self):
        """Picks of eight arms behind dozens of uses and boxes, with as much to be reckoned as there can be."""
        frame = record(s=use("a"))
        n = get((field("s"), field("next"), field("n")))
        pairs = tuple((name, (("show", ()),)) for name in "abcdefgh")
        for per, rows, gets in ((6, (2, 2, 2, 2), (5, 4, 4, 4)), (6, (16, 2), (8, 8)), (6, (5, 3, 2), (6, 5, 5)),
                                (6, (16,), (15,)), (6, (1, 1, 1, 1, 16), (1, 1, 1, 1, 13))):
            book = self.long_book(per, rows)
            place = (field("s"), field("next"), field("r")) + tuple(at(sum_of([n] * many)) for many in gets)
            code = self.code((("pick", place, pairs),) * 4, frame, book)
            self.assertGreater(len(code), 10000)
            self.assertLessEqual(len(code), MOST_ROWS)


class RefusalTest(unittest.TestCase):
    frame = record(a=LIST8)
    plan = planned(LIST, record(a=LIST8))
    program = (record(a=LIST8), (SAY,))

    def refused(self, book, plan, program, *told):
        self.assertEqual(refusal(compiled, book, plan, program), told)

    def test_bad_book(self):
        for plan in (self.plan, None):
            for program in (self.program, None):
                self.refused(WRONG_BOOK, plan, program, "BadBook", (0, 0), "name")
                self.refused(None, plan, program, "BadBook", (), "book")

    def test_bad_plan(self):
        for plan in NO_THINGS + (self.plan[:2], ((T, ("slot", 3)),)):
            for program in (self.program, None):
                self.refused(LIST, plan, program, "BadPlan", *planfault(LIST, plan))

    def test_bad_program(self):
        for program in NO_THINGS + ((self.frame, (None,)), (N8, ())):
            for plan in (self.plan, planned(LIST, T)):
                self.refused(LIST, plan, program, "BadProgram", *programfault(LIST, program))

    def test_a_plan_of_another_kind(self):
        for kind in (T, LIST8, record(b=LIST8), record(), record(a=LIST8, b=T)):
            self.refused(LIST, planned(LIST, kind), self.program, "BadProgram", (0,), "plan")
        self.assertIsNone(refusal(compiled, LIST, self.plan, self.program))


if __name__ == "__main__":
    unittest.main()
