"""Books of declarations: their first fault, that of a kind, and the parts of a closed kind."""

from packedforms.errors import BadBook, BadKind
from packedforms.kinds import PART_WORDS, inner_kinds, is_between, is_tuple_of, with_inner

MOST_DECLARATIONS = 12
MOST_HOLES = 3
MOST_LETTERS = 12
MOST_BITS = 64
MOST_PARTS = 8
MOST_MANY = 16
MOST_FORMS = 40
MOST_DEPTH = 8

LETTERS = "abcdefghijklmnopqrstuvwxyz"

# How many things a form of each word has, the word among them.
LENGTHS = {
    "nat": 2,
    "int": 2,
    "truth": 1,
    "record": 2,
    "variant": 2,
    "row": 3,
    "maybe": 2,
    "box": 2,
    "use": 3,
    "hole": 2,
}


class Look:
    """What is known while one kind is looked at: the declarations, the holes that may stand, the forms met so far."""

    def __init__(self, heads, holes):
        self.heads = heads
        self.holes = holes
        self.forms = 0


def is_name(thing):
    """Whether it is a text of 1 to 12 small letters."""
    if not isinstance(thing, str) or not 1 <= len(thing) <= MOST_LETTERS:
        return False
    return all([letter in LETTERS for letter in thing])


def name_fault(earlier, thing, place):
    """The fault of a thing as a name that no earlier one is."""
    if not is_name(thing):
        return (place, "name")
    if thing in earlier:
        return (place, "twice")
    return None


def own_fault(look, thing, depth):
    """The word for what is wrong with a thing as a kind, told at its own place."""
    if not isinstance(thing, tuple) or not thing:
        return "kind"
    if not isinstance(thing[0], str) or thing[0] not in LENGTHS:
        return "kind"
    look.forms += 1
    if depth > MOST_DEPTH:
        return "deep"
    if look.forms > MOST_FORMS:
        return "forms"
    if len(thing) != LENGTHS[thing[0]]:
        return "shape"
    return None


def kind_fault(look, thing, place, depth):
    """The first fault of a thing as a kind at a place, that many forms deep."""
    why = own_fault(look, thing, depth)
    if why is not None:
        return (place, why)
    word = thing[0]
    if word in PART_WORDS:
        return parts_fault(look, thing, place, depth)
    if word == "use":
        return use_fault(look, thing, place, depth)
    if word == "row":
        if not is_between(thing[1], 1, MOST_MANY):
            return (place + (1,), "many")
        return kind_fault(look, thing[2], place + (2,), depth + 1)
    if word == "maybe" or word == "box":
        return kind_fault(look, thing[1], place + (1,), depth + 1)
    if word == "hole":
        may_stand = isinstance(thing[1], str) and thing[1] in look.holes
        return None if may_stand else (place + (1,), "hole")
    if word == "truth" or is_between(thing[1], 1, MOST_BITS):
        return None
    return (place + (1,), "bits")


def parts_fault(look, thing, place, depth):
    """The first fault within a record or variant whose own shape is right."""
    least = 1 if thing[0] == "variant" else 0
    if not isinstance(thing[1], tuple):
        return (place + (1,), "parts")
    if not least <= len(thing[1]) <= MOST_PARTS:
        return (place + (1,), "many")
    names = []
    for number, pair in enumerate(thing[1]):
        at = place + (1, number)
        if not is_tuple_of(pair, 2):
            return (at, "part")
        fault = name_fault(names, pair[0], at + (0,))
        if fault is None:
            fault = kind_fault(look, pair[1], at + (1,), depth + 1)
        if fault is not None:
            return fault
        names.append(pair[0])
    return None


def use_fault(look, thing, place, depth):
    """The first fault within a use whose own shape is right."""
    if not isinstance(thing[1], str) or thing[1] not in look.heads:
        return (place + (1,), "unknown")
    if not is_tuple_of(thing[2], look.heads[thing[1]]):
        return (place + (2,), "fills")
    for number, each in enumerate(thing[2]):
        fault = kind_fault(look, each, place + (2, number), depth + 1)
        if fault is not None:
            return fault
    return None


def head_fault(earlier, thing, number):
    """The first fault of a declaration but for its kind; earlier are the names of those ahead."""
    if not is_tuple_of(thing, 3):
        return ((number,), "entry")
    fault = name_fault(earlier, thing[0], (number, 0))
    if fault is not None:
        return fault
    if not isinstance(thing[1], tuple) or len(thing[1]) > MOST_HOLES:
        return ((number, 1), "holes")
    holes = []
    for at, hole in enumerate(thing[1]):
        fault = name_fault(holes, hole, (number, 1, at))
        if fault is not None:
            return fault
        holes.append(hole)
    return None


def heads_of(book):
    """How many holes each declaration has, by its name."""
    return {name: len(holes) for name, holes, kind in book}


def bookfault(thing):
    """The first fault of any written thing as a book, (place, why), or None."""
    if not isinstance(thing, tuple):
        return ((), "book")
    if len(thing) > MOST_DECLARATIONS:
        return ((), "many")
    names = []
    for number, row in enumerate(thing):
        fault = head_fault(names, row, number)
        if fault is not None:
            return fault
        names.append(row[0])
    heads = heads_of(thing)
    for number, row in enumerate(thing):
        fault = kind_fault(Look(heads, row[1]), row[2], (number, 2), 1)
        if fault is not None:
            return fault
    return None


def closed_fault(book, thing):
    """The first fault of a thing as a closed kind, of a book that is known to be one."""
    return kind_fault(Look(heads_of(book), ()), thing, (), 1)


def formfault(book, thing):
    """The first fault of any written thing as a closed kind, (place, why), or None."""
    if bookfault(book) is not None:
        return ((), "book")
    return closed_fault(book, thing)


def refuse_book(book):
    """Refuses what is no book."""
    fault = bookfault(book)
    if fault is not None:
        raise BadBook(fault[0], fault[1])


def refuse_unformed(book, kind):
    """Refuses what is no book, then what is no closed kind under it."""
    refuse_book(book)
    fault = closed_fault(book, kind)
    if fault is not None:
        raise BadKind(fault[0], fault[1])


def filled(kind, fills):
    """The kind with its holes put in, all at once."""
    if kind[0] == "hole":
        return fills[kind[1]]
    return with_inner(kind, [filled(each, fills) for each in inner_kinds(kind)])


def body_of(book, use):
    """The body of a closed use under a book that declares it."""
    holes, kind = [(row[1], row[2]) for row in book if row[0] == use[1]][0]
    return filled(kind, dict(zip(holes, use[2])))


def parts_of(book, kind):
    """The parts of a closed kind under a book that lets it by."""
    if kind[0] == "use":
        return (body_of(book, kind),)
    return inner_kinds(kind)


def body(book, use):
    """The body of a closed use."""
    refuse_unformed(book, use)
    if use[0] != "use":
        raise BadKind((), "use")
    return body_of(book, use)


def parts(book, kind):
    """The parts of a closed kind, in order."""
    refuse_unformed(book, kind)
    return parts_of(book, kind)
