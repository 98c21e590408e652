"""The look at code beside a second one that is written as plainly as can be, over bent codes: H2."""

import random
import unittest

from packedforms.codelook import codefault
from packedforms.compiler import compiled
from packedforms.images import imagefault
from tests.scripts import random_frame, random_program
from tests.test_machine import Scribe
from tests.worlds import BOOK, wild_plan

# What stands behind each word: w whole, n a number, t a truth, p a program place, x anything.
THINGS = {"turn": "p", "number": "n", "truth": "t", "add": "", "sub": "", "mul": "", "div": "", "rem": "", "less": "",
          "like": "", "not": "", "jump": "w", "unless": "w", "frame": "", "field": "ww", "item": "w", "arm": "ww",
          "box": "w", "same": "w", "probe": "ww", "fetch": "w", "keep": "w", "say": "t", "show": "w", "put": "wx",
          "copy": "w", "swap": "w", "end": ""}
FORMS = {"field": "fields", "item": "run", "arm": "pick", "probe": "pick", "box": "point", "same": "same",
         "fetch": "slot", "keep": "slot", "show": None, "put": None, "copy": None, "swap": None}
OTHERS = (("turn", ()), ("frame",), ("number", 1), ("truth", True), ("end",), ("add",), ("not",))


class Stuck(Exception):
    pass


def fits(thing, due):
    if due == "t":
        return type(thing) is bool
    if due == "p":
        return type(thing) is tuple and all(type(each) is int for each in thing)
    return due == "x" or type(thing) is int and (due == "w" or -2 ** 64 <= thing <= 2 ** 64)


def well_formed(row):
    if type(row) is not tuple or not row or type(row[0]) is not str or row[0] not in THINGS:
        return False
    dues = THINGS[row[0]]
    return len(row) == len(dues) + 1 and all(fits(thing, due) for thing, due in zip(row[1:], dues))


def wrong_entry(plan, row):
    word = row[0]
    if word not in FORMS:
        return False
    if not 0 <= row[1] < len(plan):
        return True
    form = plan[row[1]][1]
    if FORMS[word] is not None and form[0] != FORMS[word]:
        return True
    if word in ("field", "arm", "probe"):
        many = len(form[2] if word == "field" else form[5])
        return not 0 <= row[2] < many or word == "arm" and form[5][row[2]][2] == -1
    return word == "put" and imagefault(plan, row[2], entry=row[1]) is not None


def pop(stack, *tops):
    for top in tops:
        if not stack or stack.pop() != top:
            raise Stuck


def after(plan, row, sorts, places):
    """Both stacks behind a row, as lists changed on the spot."""
    word = row[0]
    kind, form = plan[row[1]] if word in FORMS else (None, None)
    sort = "truth" if kind is not None and kind[0] == "truth" else "number"
    if word in ("number", "truth"):
        sorts.append(word)
    elif word in ("add", "sub", "mul", "div", "rem", "less"):
        pop(sorts, "number", "number")
        sorts.append("truth" if word == "less" else "number")
    elif word == "like":
        pop(sorts, *sorts[-1:] * 2 or ["number"])
        sorts.append("truth")
    elif word in ("not", "unless"):
        pop(sorts, "truth")
        sorts += ["truth"] * (word == "not")
    elif word == "say":
        pop(sorts, "truth" if row[1] else "number")
    elif word == "frame":
        places.append(0)
    elif word in ("copy", "swap"):
        pop(places, row[1], row[1])
    elif word in FORMS:
        pop(places, row[1])
    if word in ("field", "item", "arm", "box", "same"):
        pop(sorts, *["number"] * (word == "item"))
        inner = {"field": lambda: form[2][row[2]][1], "item": lambda: form[2], "arm": lambda: form[5][row[2]][2]}
        places.append(inner.get(word, lambda: form[1])())
    if word in ("probe", "fetch"):
        sorts.append("truth" if word == "probe" else sort)
    if word == "keep":
        pop(sorts, sort)
    if word in ("put", "copy", "swap") and places:
        raise Stuck
    return tuple(sorts), tuple(places)


def plain_look(plan, code):
    for number, row in enumerate(code):
        if not well_formed(row):
            return (number, "form")
    handed = {0: ((), ())}
    for number, row in enumerate(code):
        if number not in handed:
            return (number, "lost")
        if wrong_entry(plan, row):
            return (number, "entry")
        try:
            behind = after(plan, row, *map(list, handed[number]))
        except Stuck:
            return (number, "stack")
        named = list(row[1:]) if row[0] in ("jump", "unless") else []
        goals = named + [number + 1] * (row[0] not in ("jump", "end"))
        if any(not 0 <= goal < len(code) or goal <= number and code[goal][0] != "turn" for goal in goals):
            return (number, "jump")
        if any(handed.setdefault(goal, behind) != behind for goal in goals):
            return (number, "unlike")
    return None


def bent(dice, rows):
    """The rows with one of them left out, put in twice, or changed."""
    place, other = dice.randrange(len(rows)), rows[dice.randrange(len(rows))]
    deed = dice.randrange(6)
    if deed == 0:
        return rows[:place] + rows[place + 1:] or [("end",)]
    if deed == 1:
        return rows[:place] + [other] + rows[place:]
    if deed == 2:
        return rows[:place] + [(dice.choice(("jump", "unless")), dice.randint(-1, len(rows)))] + rows[place + 1:]
    if deed == 3 and len(rows[place]) > 1:
        thing = dice.randrange(1, len(rows[place]))
        told = rows[place][:thing] + (dice.choice((0, 1, 2, -1, 5, True, None, ())),) + rows[place][thing + 1:]
        return rows[:place] + [told] + rows[place + 1:]
    return rows[:place] + [dice.choice(OTHERS + (other,))] + rows[place + dice.randint(0, 1):]


class BesideTest(unittest.TestCase):
    def test_bent_codes(self):
        dice = random.Random(171)
        words = {}
        while sum(words.values()) < 2500:
            frame = random_frame(dice)
            plan = wild_plan(dice, BOOK, frame)
            if plan is None:
                continue
            scribe = Scribe(dice, BOOK, plan)
            scribe.write(dice.choice((5, 12, 25)))
            code = compiled(BOOK, plan, random_program(dice, BOOK, frame))
            for rows in (scribe.rows + [("end",)], list(code)):
                for each in range(12):
                    told = rows
                    for change in range(dice.choice((0, 1, 1, 2, 3))):
                        told = bent(dice, told)
                    fault = codefault(BOOK, plan, tuple(told))
                    self.assertEqual(fault, plain_look(plan, tuple(told)))
                    word = fault[1] if fault else "let by"
                    words[word] = words.get(word, 0) + 1
        self.assertEqual(set(words), {"let by", "form", "lost", "entry", "stack", "jump", "unlike"})


if __name__ == "__main__":
    unittest.main()
