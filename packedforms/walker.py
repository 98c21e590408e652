"""The language walked over worths: expressions reckoned, places gone, statements done, programs walked."""

from packedforms.blocks import ROOM
from packedforms.books import refuse_book
from packedforms.errors import BadPlan, Full, OutOfRow, WrongArm
from packedforms.images import laid_sheets, sheets_weight
from packedforms.kinds import alike
from packedforms.needs import MOST_BOXES, MOST_WORTH
from packedforms.paths import first_unlike, gone_through, inner_place, rebuilt, refuse_misfit, stepped
from packedforms.plancheck import refuse_plan
from packedforms.plans import ROOT
from packedforms.programs import refuse_program
from packedforms.reaches import standing_web
from packedforms.sums import Ended, two_reckoned
from packedforms.worths import plain_fits, seen_through, toured

TURNS = 500


class Walking:
    """A walk: the frame's web, the state, the plan and room that bound it, and what was told and taken so far."""

    def __init__(self, web, state, plan, room, turns):
        self.web = web
        self.state = state
        self.plan = plan
        self.room = room
        self.turns = turns
        self.taken = 0
        self.answers = []
        self.place = ()


class Going:
    """Where a place leads: its path, the rows (worth, place in it) on the way, the part there, its kind's number."""

    def __init__(self, path, rows, part, number):
        self.path = path
        self.rows = rows
        self.part = part
        self.number = number


def step_gone(kind, worth, step):
    """Where in a worth a step leads; ends where it can't be gone."""
    try:
        return inner_place(kind, worth, step, 0)
    except OutOfRow:
        raise Ended("row") from None
    except WrongArm:
        raise Ended("arm") from None


def go(walking, place):
    """Goes to a place of the state."""
    web = walking.web
    path = []
    rows = []
    part = walking.state
    number = 0
    for written in place:
        step = ("at", reckon(walking, written[1])) if written[0] == "at" else written
        inner = step_gone(web.kinds[number], part, step)
        path.append(step)
        rows.append((part, inner))
        part = part[inner]
        number = seen_through(web, stepped(web, number, step))[0]
    return Going(tuple(path), rows, part, number)


def arm_name(kind, worth):
    """The name of the arm that a worth of a variant or a maybe has."""
    if kind[0] == "variant":
        return worth[0]
    return "none" if worth == () else "some"


def arm_gone(walking, place):
    """The name of the arm that is there at a place."""
    going = go(walking, place)
    return arm_name(walking.web.kinds[going.number], going.part)


def reckon(walking, expression):
    """The number or truth that an expression tells."""
    word = expression[0]
    if word == "number" or word == "truth":
        return expression[1]
    if word == "get":
        return go(walking, expression[1]).part
    if word == "is":
        return arm_gone(walking, expression[1]) == expression[2]
    first = reckon(walking, expression[1])
    if word == "not":
        return not first
    # A first truth that settles the whole leaves the second one unasked.
    if word == "and" and not first or word == "or" and first:
        return first
    second = reckon(walking, expression[2])
    if word == "and" or word == "or":
        return second
    return two_reckoned(word, first, second)


def change(walking, whole):
    """Makes another worth the state, unless it is none or has no room."""
    if toured(walking.web, whole, MOST_BOXES, MOST_WORTH)[0] is not None:
        raise Ended("deep")
    plan = walking.plan
    if plan is not None and sheets_weight(plan, laid_sheets(plan, ROOT, whole)) > walking.room:
        raise Ended("full")
    walking.state = whole


def do_set(walking, statement, at):
    """Sets a nat, int or truth to what is reckoned."""
    told = reckon(walking, statement[2])
    going = go(walking, statement[1])
    if not plain_fits(walking.web.kinds[going.number], told):
        raise Ended("range")
    walking.state = rebuilt(going.rows, told)


def do_put(walking, statement, at):
    """Puts a written worth at a place."""
    change(walking, rebuilt(go(walking, statement[1]).rows, statement[2]))


def do_copy(walking, statement, at):
    """Puts what is at another place at a place."""
    part = go(walking, statement[2]).part
    change(walking, rebuilt(go(walking, statement[1]).rows, part))


def do_swap(walking, statement, at):
    """Puts what is at each of two places at the other."""
    one = go(walking, statement[1])
    other = go(walking, statement[2])
    if first_unlike(one.path, other.path) is None:
        if len(one.path) != len(other.path):
            raise Ended("over")
        return
    half = rebuilt(one.rows, other.part)
    # The way to the other place leads through other worths by now, where both paths begin alike.
    rows = gone_through(walking.web, half, other.path)[0]
    change(walking, rebuilt(rows, one.part))


def do_say(walking, statement, at):
    """Tells a number or truth."""
    walking.answers.append(reckon(walking, statement[1]))


def do_show(walking, statement, at):
    """Tells the part at a place."""
    walking.answers.append(go(walking, statement[1]).part)


def do_if(walking, statement, at):
    """Does the rows or the others."""
    chosen = 2 if reckon(walking, statement[1]) else 3
    do_rows(walking, statement[chosen], at + (chosen,))


def do_while(walking, statement, at):
    """Does its rows as long as its truth holds; the first asking's turn is taken already."""
    while reckon(walking, statement[1]):
        do_rows(walking, statement[2], at + (2,))
        take_turn(walking, at)


def do_pick(walking, statement, at):
    """Does the rows of the arm that is there."""
    name = arm_gone(walking, statement[1])
    for number, (arm, rows) in enumerate(statement[2]):
        if arm == name:
            do_rows(walking, rows, at + (2, number, 1))


STATEMENTS = {
    "set": do_set,
    "put": do_put,
    "copy": do_copy,
    "swap": do_swap,
    "say": do_say,
    "show": do_show,
    "if": do_if,
    "while": do_while,
    "pick": do_pick,
}


def take_turn(walking, place):
    """Takes a turn for the statement at a place."""
    walking.place = place
    if walking.taken == walking.turns:
        raise Ended("dry")
    walking.taken += 1


def do_rows(walking, rows, at):
    """Does statements in order, each behind its turn."""
    for number, statement in enumerate(rows):
        here = at + (number,)
        take_turn(walking, here)
        action = STATEMENTS[statement[0]]
        action(walking, statement, here)


def reckoned(book, frame, worth, expression):
    """What an expression tells of a worth of the frame: ("number", n), ("truth", t) or ("end", word)."""
    walking = Walking(standing_web(book, frame), worth, None, ROOM, 0)
    try:
        told = reckon(walking, expression)
    except Ended as end:
        return ("end", end.word)
    return ("truth" if isinstance(told, bool) else "number", told)


def gone(book, frame, worth, place):
    """The path to which a place leads in a worth of the frame: ("path", path) or ("end", word)."""
    walking = Walking(standing_web(book, frame), worth, None, ROOM, 0)
    try:
        return ("path", go(walking, place).path)
    except Ended as end:
        return ("end", end.word)


def done(book, frame, worth, statement, *, plan=None, room=ROOM):
    """What a set, put, copy or swap makes of a worth of the frame: ("worth", worth) or ("end", word)."""
    walking = Walking(standing_web(book, frame), worth, plan, room, 0)
    action = STATEMENTS[statement[0]]
    try:
        action(walking, statement, ())
    except Ended as end:
        return ("end", end.word)
    return ("worth", walking.state)


def refuse_unplanned(book, frame, worth, plan, room):
    """Refuses a plan that doesn't hold or is of another kind, and a room that the worth has no place in."""
    refuse_plan(book, plan)
    if not alike(plan[ROOT][0], frame):
        raise BadPlan(ROOT, "frame")
    need = sheets_weight(plan, laid_sheets(plan, ROOT, worth))
    if need > room:
        raise Full(need, room)


def walked(book, program, worth, *, turns=TURNS, plan=None, room=ROOM):
    """Walks a program over a worth of its frame: (answers, end, place, used, left)."""
    refuse_book(book)
    refuse_program(book, program)
    frame, rows = program
    web = standing_web(book, frame)
    refuse_misfit(web, worth)
    if plan is not None:
        refuse_unplanned(book, frame, worth, plan, room)
    walking = Walking(web, worth, plan, room, turns)
    word = "done"
    try:
        do_rows(walking, rows, (1,))
    except Ended as end:
        word = end.word
    place = () if word == "done" else walking.place
    return (tuple(walking.answers), word, place, walking.taken, walking.state)
