"""What several tests build with: kinds by short names, deep things, refusals."""

N8 = ("nat", 8)
N16 = ("nat", 16)
I8 = ("int", 8)
T = ("truth",)
NONE = ("record", ())


def nat(bits):
    return ("nat", bits)


def whole(bits):
    return ("int", bits)


def record(**named):
    return ("record", tuple(named.items()))


def variant(**named):
    return ("variant", tuple(named.items()))


def row(many, kind):
    return ("row", many, kind)


def maybe(kind, times=1):
    for each in range(times):
        kind = ("maybe", kind)
    return kind


def box(kind, times=1):
    for each in range(times):
        kind = ("box", kind)
    return kind


def use(name, *fills):
    return ("use", name, fills)


def hole(name):
    return ("hole", name)


def deep(times, middle=()):
    """A thing that many tuples deep around the middle."""
    for each in range(times):
        middle = (middle,)
    return middle


LIST = (("list", ("a",), variant(nil=NONE, cons=record(head=hole("a"), tail=box(use("list", hole("a")))))),)
LIST8 = use("list", N8)

# Not a book: its only declaration has no name.
WRONG_BOOK = (("", (), T),)

# A span of 400: 1 + 3 * (1 + 12 * (1 + 10)).
SPAN_400 = row(3, row(12, row(10, N8)))

# Heights of 10 and 11 under the book.
HIGH_BOOK = (("high", (), maybe(N8, 7)),)
HEIGHT_10 = maybe(use("high"))
HEIGHT_11 = maybe(use("high"), 2)


def crowd(last):
    """A book and a kind of 1 + 9 * 6 + 2 + last kinds in its reach, all of whose numbers are unlike."""
    book = []
    for number in range(7):
        many = last if number == 6 else 7
        parts = {name: nat(1 + 7 * number + at) for at, name in enumerate("abcdefg"[:many])}
        book.append(("abcdefg"[number], (), record(**parts)))
    return tuple(book), record(**{name: use(name) for name in "abcdefg"})


NO_THINGS = (None, True, False, 0, 1, -1, 10 ** 400, "", "nat", "a b", (), (None,), ((),), deep(280), ("", ""))


def refusal(call, *told, **named):
    """The error that a call ends with, as (its class's name, its values in order); None where it doesn't end so."""
    try:
        call(*told, **named)
    except ValueError as why:
        assert type(why).__mro__[1].__name__ == "PackError"
        return (type(why).__name__, *vars(why).values())
    return None

# Uses of six and of one put so many boxes around a kind.
BOXES = (("six", ("a",), box(hole("a"), 6)), ("one", ("a",), box(hole("a"))),
         ("chain", (), maybe(box(use("chain")))),
         ("void", (), record(x=T, y=box(use("void")))),
         ("tree", (), variant(fork=record(l=box(use("tree")), r=box(use("tree"))), leaf=N8)),
         ("late", (), variant(far=box(use("late")), near=use("one", T), also=use("one", N8))))
TWELVE = use("six", use("six", T))
THIRTEEN = use("one", TWELVE)

# A plainest worth of just 1000 parts: 1 + 9 * (1 + 10 * (1 + 10)).
PARTS_1000 = row(9, box(row(10, row(10, N8))))
