"""Written things and kinds: when two are alike, how a kind is made up, and its text."""

PLAIN_WORDS = ("nat", "int", "truth")
PART_WORDS = ("record", "variant")


def is_whole(thing):
    """Whether it is a whole number; a truth is none, though Python counts it as one."""
    return isinstance(thing, int) and not isinstance(thing, bool)


def is_between(thing, least, most):
    """Whether it is a whole number from least to most."""
    return is_whole(thing) and least <= thing <= most


def is_tuple_of(thing, many):
    """Whether it is a tuple of so many things."""
    return isinstance(thing, tuple) and len(thing) == many


def power(bits):
    """2 to the power of bits."""
    return 1 << bits


def alike(one, other):
    """Whether two written things are alike, a truth and a number never being so."""
    # A list of what is left instead of recursion, as written things may be hundreds of tuples deep.
    left = [(one, other)]
    while left:
        first, second = left.pop()
        if isinstance(first, tuple) and isinstance(second, tuple):
            if len(first) != len(second):
                return False
            left.extend(list(zip(first, second)))
        elif isinstance(first, bool) != isinstance(second, bool) or first != second:
            return False
    return True


def inner_kinds(kind):
    """The kinds that are written directly in a kind, from first to last."""
    word = kind[0]
    if word in PART_WORDS:
        return tuple([part[1] for part in kind[1]])
    if word == "row":
        return (kind[2],)
    if word == "maybe" or word == "box":
        return (kind[1],)
    if word == "use":
        return kind[2]
    return ()


def with_inner(kind, inner):
    """The kind with others in the place of its inner kinds."""
    word = kind[0]
    if word in PART_WORDS:
        return (word, tuple([(part[0], other) for part, other in zip(kind[1], inner)]))
    if word == "row":
        return (word, kind[1], inner[0])
    if word == "maybe" or word == "box":
        return (word, inner[0])
    if word == "use":
        return (word, kind[1], tuple(inner))
    return kind


def forms_in(kind):
    """How many forms a kind has as it is written, itself among them."""
    return 1 + sum([forms_in(each) for each in inner_kinds(kind)])


def depth_of(kind):
    """How many forms of a kind lie within one another at most."""
    return 1 + max([depth_of(each) for each in inner_kinds(kind)], default=0)


def shown(kind):
    """A kind's text; no two kinds have the same, so it serves as a kind's key."""
    word = kind[0]
    if word == "nat" or word == "int":
        return f"{word}{kind[1]}"
    if word in PART_WORDS:
        rows = ", ".join([f"{name} {shown(each)}" for name, each in kind[1]])
        return f"{word}({rows})"
    if word == "row":
        return f"row {kind[1]} {shown(kind[2])}"
    if word == "maybe" or word == "box":
        return f"{word} {shown(kind[1])}"
    if word == "use":
        rows = ", ".join([shown(each) for each in kind[2]])
        return f"{kind[1]}[{rows}]"
    if word == "hole":
        return f"?{kind[1]}"
    return word
