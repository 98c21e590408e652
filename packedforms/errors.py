"""All refusals: each class stands directly under PackError and has its values by their names."""


class PackError(ValueError):
    """Any refusal."""


class BadBook(PackError):
    """A book that bookfault doesn't let by: its first fault."""

    def __init__(self, place, why):
        self.place = place
        self.why = why


class BadKind(PackError):
    """A kind that formfault doesn't let by, or one of another word than is asked for."""

    def __init__(self, place, why):
        self.place = place
        self.why = why


class TooMany(PackError):
    """The first kind of a reach that is one too many, too great as it is written, or too high."""

    def __init__(self, kind):
        self.kind = kind


class Endless(PackError):
    """A ring of kinds in a reach."""

    def __init__(self, ring):
        self.ring = ring


class TooGreat(PackError):
    """A kind whose span, or whose plainest worth, is too great."""

    def __init__(self, kind):
        self.kind = kind


class Hollow(PackError):
    """A kind without any worth: a paper of needs that says so."""

    def __init__(self, paper):
        self.paper = paper


class Misfit(PackError):
    """What is no worth of its kind: the path to the first part that isn't."""

    def __init__(self, path):
        self.path = path


class NoCode(PackError):
    """What is no worth's code."""

    def __init__(self, code):
        self.code = code


class Boxed(PackError):
    """A kind whose worths aren't counted, as there is a box in its reach."""

    def __init__(self, kind):
        self.kind = kind


class NoRank(PackError):
    """What is no worth's rank."""

    def __init__(self, number):
        self.number = number


class BadPlan(PackError):
    """A plan that planfault doesn't let by, or that doesn't go with the rest."""

    def __init__(self, entry, why):
        self.entry = entry
        self.why = why


class BadImage(PackError):
    """An image that imagefault doesn't let by."""

    def __init__(self, path, why):
        self.path = path
        self.why = why


class TooWide(PackError):
    """A kind whose entry would have too many bits."""

    def __init__(self, kind, size):
        self.kind = kind
        self.size = size


class BadStore(PackError):
    """Bytes, roots or a room that make no store."""

    def __init__(self, why, root, path):
        self.why = why
        self.root = root
        self.path = path


class Full(PackError):
    """More bytes are needed than are left."""

    def __init__(self, need, rest):
        self.need = need
        self.rest = rest


class NoHandle(PackError):
    """What is no handle, or none any more."""

    def __init__(self, handle):
        self.handle = handle


class BadPath(PackError):
    """A path that doesn't fit its kind: the number of the step."""

    def __init__(self, step):
        self.step = step


class OutOfRow(PackError):
    """A step to a thing that its row hasn't."""

    def __init__(self, step):
        self.step = step


class WrongArm(PackError):
    """A step to an arm that isn't there."""

    def __init__(self, step):
        self.step = step


class BadProgram(PackError):
    """A program that programfault doesn't let by, or that doesn't go with a plan."""

    def __init__(self, place, why):
        self.place = place
        self.why = why


class BadCode(PackError):
    """Code that codefault doesn't let by."""

    def __init__(self, row, why):
        self.row = row
        self.why = why


class BadPaper(PackError):
    """A paper of growth that growfault doesn't let by, or that doesn't go with the roots."""

    def __init__(self, row, why):
        self.row = row
        self.why = why


class NoGrowth(PackError):
    """Kinds or papers of which the one doesn't grow to the other."""

    def __init__(self, path, why):
        self.path = path
        self.why = why


class NotShrunk(PackError):
    """A worth to which growing never leads: the path to the first such part."""

    def __init__(self, path):
        self.path = path
