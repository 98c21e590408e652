"""Programs that walk over a worth of a record: whether a thing is one, and if not, its first fault."""

from packedforms.books import bookfault
from packedforms.errors import BadProgram
from packedforms.kinds import alike, is_between, is_tuple_of, power
from packedforms.needs import MOST_BOXES
from packedforms.paths import stepped
from packedforms.reaches import kindfault, standing_web
from packedforms.worths import misfit, seen_through

MOST_STATEMENTS = 40
MOST_EXPRESSIONS = 120
MOST_STEPS = 240

STATEMENTS_DEEP = 4
EXPRESSIONS_DEEP = 6
PLACE_STEPS = 8
PUT_BOXES = 4
PUT_PARTS = 200

# How many things a statement and an expression of each word has, the word among them.
STATEMENT_LENGTHS = {
    "set": 3,
    "put": 3,
    "copy": 3,
    "swap": 3,
    "say": 2,
    "show": 2,
    "if": 4,
    "while": 3,
    "pick": 3,
}
EXPRESSION_LENGTHS = {
    "number": 2,
    "truth": 2,
    "get": 2,
    "add": 3,
    "sub": 3,
    "mul": 3,
    "div": 3,
    "rem": 3,
    "less": 3,
    "like": 3,
    "not": 2,
    "and": 3,
    "or": 3,
    "is": 3,
}

# Which expressions are numbers, and which take numbers or truths.
NUMBER_WORDS = ("number", "add", "sub", "mul", "div", "rem")
OF_NUMBERS = ("add", "sub", "mul", "div", "rem", "less")
OF_TRUTHS = ("not", "and", "or")

# What kinds a place may be asked for.
PLAIN = ("nat", "int", "truth")
CHOICE = ("variant", "maybe")
ANY = ("nat", "int", "truth", "record", "variant", "row", "maybe")


class Reading:
    """A program while it is looked at: the book, the frame's web, and how many of each were met so far."""

    def __init__(self, book, web):
        self.book = book
        self.web = web
        self.statements = 0
        self.expressions = 0
        self.steps = 0


class Found:
    """What the look at a place or an expression tells: a fault, or else the one's kind, the other's sort."""

    def __init__(self, fault, kind, its_sort):
        self.fault = fault
        self.kind = kind
        self.its_sort = its_sort


def faulty(place, why):
    """A find that is a fault."""
    return Found((place, why), None, None)


def word_of(thing):
    """The text with which a tuple begins, or an empty one where a thing is no such tuple."""
    if not isinstance(thing, tuple) or not thing or not isinstance(thing[0], str):
        return ""
    return thing[0]


def sort_of(kind):
    """The sort of what is got of a nat, int or truth."""
    return "truth" if kind[0] == "truth" else "number"


def arms_of(kind):
    """The names of the arms of a variant or a maybe, in their order."""
    return ("none", "some") if kind[0] == "maybe" else tuple([name for name, inner in kind[1]])


def is_at_step(step):
    """Whether it is a step with an expression."""
    return is_tuple_of(step, 2) and step[0] == "at"


def place_look(reading, thing, at, deep, words):
    """Looks at a thing as a place whose kind has one of the words; its expressions lie in so many others."""
    if not isinstance(thing, tuple) or len(thing) > PLACE_STEPS:
        return faulty(at, "place")
    # The frame is a record, so nothing is seen through ahead of the first step.
    number = 0
    boxes = 0
    for place, step in enumerate(thing):
        here = at + (place,)
        reading.steps += 1
        if reading.steps > MOST_STEPS:
            return faulty(here, "many")
        link = stepped(reading.web, number, ("at", 0) if is_at_step(step) else step)
        if link is None:
            return faulty(here, "step")
        number, more = seen_through(reading.web, link)
        boxes += more
        if boxes > MOST_BOXES:
            return faulty(here, "step")
        if is_at_step(step):
            found = sorted_look(reading, step[1], here + (1,), deep, "number")
            if found.fault is not None:
                return found
    kind = reading.web.kinds[number]
    if kind[0] not in words:
        return faulty(at, "kind")
    return Found(None, kind, None)


def expression_wrong(reading, thing, deep):
    """The word for what is wrong with a thing as an expression, told at its own place, or None."""
    reading.expressions += 1
    if reading.expressions > MOST_EXPRESSIONS:
        return "many"
    if deep >= EXPRESSIONS_DEEP:
        return "deep"
    word = word_of(thing)
    if word not in EXPRESSION_LENGTHS or len(thing) != EXPRESSION_LENGTHS[word]:
        return "form"
    if word == "number" and not is_between(thing[1], -power(64), power(64)):
        return "form"
    if word == "truth" and not isinstance(thing[1], bool):
        return "form"
    return None


def expression_look(reading, thing, at, deep):
    """Looks at a thing as an expression of any sort that lies in so many others."""
    why = expression_wrong(reading, thing, deep)
    if why is not None:
        return faulty(at, why)
    word = thing[0]
    sort = "number" if word in NUMBER_WORDS else "truth"
    if word == "number" or word == "truth":
        return Found(None, None, sort)
    if word == "get":
        found = place_look(reading, thing[1], at + (1,), deep + 1, PLAIN)
        return found if found.fault is not None else Found(None, None, sort_of(found.kind))
    if word == "is":
        return is_look(reading, thing, at, deep)
    wanted = None
    if word in OF_NUMBERS:
        wanted = "number"
    elif word in OF_TRUTHS:
        wanted = "truth"
    for place, inner in enumerate(thing[1:], start=1):
        found = sorted_look(reading, inner, at + (place,), deep + 1, wanted)
        if found.fault is not None:
            return found
        # The second thing of like is to be of the sort of the first.
        wanted = found.its_sort
    return Found(None, None, sort)


def is_look(reading, thing, at, deep):
    """Looks at what an is has."""
    found = place_look(reading, thing[1], at + (1,), deep + 1, CHOICE)
    if found.fault is not None:
        return found
    if not isinstance(thing[2], str) or thing[2] not in arms_of(found.kind):
        return faulty(at + (2,), "arm")
    return Found(None, None, "truth")


def sorted_look(reading, thing, at, deep, wanted):
    """Looks at a thing as an expression of the wanted sort; of any where that is None."""
    found = expression_look(reading, thing, at, deep)
    if found.fault is None and wanted is not None and found.its_sort != wanted:
        return faulty(at, "sort")
    return found


def set_fault(reading, thing, at, deep):
    """The first fault of what a set has."""
    found = place_look(reading, thing[1], at + (1,), 0, PLAIN)
    if found.fault is not None:
        return found.fault
    return sorted_look(reading, thing[2], at + (2,), 0, sort_of(found.kind)).fault


def put_fault(reading, thing, at, deep):
    """The first fault of what a put has."""
    found = place_look(reading, thing[1], at + (1,), 0, ANY)
    if found.fault is not None:
        return found.fault
    way = misfit(reading.book, found.kind, thing[2], boxes=PUT_BOXES, most=PUT_PARTS)
    return None if way is None else (at + (2,), "worth")


def pair_fault(reading, thing, at, deep):
    """The first fault of the two places of a copy or a swap."""
    found = place_look(reading, thing[1], at + (1,), 0, ANY)
    if found.fault is not None:
        return found.fault
    other = place_look(reading, thing[2], at + (2,), 0, ANY)
    if other.fault is not None:
        return other.fault
    return None if alike(found.kind, other.kind) else (at + (2,), "kind")


def say_fault(reading, thing, at, deep):
    """The first fault of what a say has."""
    return sorted_look(reading, thing[1], at + (1,), 0, None).fault


def show_fault(reading, thing, at, deep):
    """The first fault of what a show has."""
    return place_look(reading, thing[1], at + (1,), 0, ANY).fault


def asking_fault(reading, thing, at, deep):
    """The first fault of what an if or a while has."""
    fault = sorted_look(reading, thing[1], at + (1,), 0, "truth").fault
    for place, rows in enumerate(thing[2:], start=2):
        if fault is None:
            fault = rows_fault(reading, rows, at + (place,), deep + 1)
    return fault


def are_pairs(thing, arms):
    """Whether it is a tuple of pairs whose first things are the arms in their order."""
    if not is_tuple_of(thing, len(arms)) or not all([is_tuple_of(pair, 2) for pair in thing]):
        return False
    return all([isinstance(pair[0], str) and pair[0] == arm for pair, arm in zip(thing, arms)])


def pick_fault(reading, thing, at, deep):
    """The first fault of what a pick has."""
    found = place_look(reading, thing[1], at + (1,), 0, CHOICE)
    if found.fault is not None:
        return found.fault
    if not are_pairs(thing[2], arms_of(found.kind)):
        return (at + (2,), "arms")
    for number, (arm, rows) in enumerate(thing[2]):
        fault = rows_fault(reading, rows, at + (2, number, 1), deep + 1)
        if fault is not None:
            return fault
    return None


LOOKS = {
    "set": set_fault,
    "put": put_fault,
    "copy": pair_fault,
    "swap": pair_fault,
    "say": say_fault,
    "show": show_fault,
    "if": asking_fault,
    "while": asking_fault,
    "pick": pick_fault,
}


def statement_fault(reading, thing, at, deep):
    """The first fault of a thing as a statement that lies in so many others."""
    reading.statements += 1
    if reading.statements > MOST_STATEMENTS:
        return (at, "many")
    if deep >= STATEMENTS_DEEP:
        return (at, "deep")
    word = word_of(thing)
    if word not in STATEMENT_LENGTHS or len(thing) != STATEMENT_LENGTHS[word]:
        return (at, "form")
    look = LOOKS[word]
    return look(reading, thing, at, deep)


def rows_fault(reading, thing, at, deep):
    """The first fault of a thing as the rows of statements that lie in so many others."""
    if not isinstance(thing, tuple):
        return (at, "rows")
    for number, row in enumerate(thing):
        fault = statement_fault(reading, row, at + (number,), deep)
        if fault is not None:
            return fault
    return None


def programfault(book, thing):
    """None where any written thing is a program, else its first fault, (place, why)."""
    if bookfault(book) is not None:
        return ((), "book")
    if not is_tuple_of(thing, 2):
        return ((), "form")
    frame, rows = thing
    if kindfault(book, frame) is not None or frame[0] != "record":
        return ((0,), "frame")
    reading = Reading(book, standing_web(book, frame))
    return rows_fault(reading, rows, (1,), 0)


def refuse_program(book, program):
    """Refuses what is no program."""
    fault = programfault(book, program)
    if fault is not None:
        raise BadProgram(fault[0], fault[1])
