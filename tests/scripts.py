"""Random programs, always the same ones for the same dice."""

from packedforms.books import parts
from packedforms.kinds import alike
from packedforms.needs import plainest
from packedforms.programs import programfault
from packedforms.worths import misfit
from tests.test_paths import SOME, arm, at, field
from tests.worlds import BOOK, random_kind, random_worth

NUMBERS = ("add", "sub", "mul", "div", "rem")


def seen(book, kind):
    """The kind behind all uses and boxes; None where there are too many boxes."""
    boxes = 0
    while kind[0] in ("use", "box"):
        boxes += kind[0] == "box"
        kind = parts(book, kind)[0]
    return kind, boxes


class Writing:
    """Makes programs for a frame."""

    def __init__(self, dice, book, frame, near=0.8, far=0.9):
        self.dice = dice
        self.book = book
        self.frame = frame
        # How likely a number is such that it leads into a row.
        self.near = near
        # How likely a place goes on.
        self.far = far
        self.plain = {"number": [], "truth": []}
        self.places = []
        for each in range(60):
            place, kind = self.shape()
            self.places.append((place, kind))
            if kind[0] in ("nat", "int", "truth"):
                self.plain["truth" if kind[0] == "truth" else "number"].append(place)
        self.choices = [(place, kind) for place, kind in self.places if kind[0] in ("variant", "maybe")]

    def shape(self):
        """A place with None for each expression, and the kind there."""
        place, kind, boxes = (), self.frame, 0
        while len(place) < 8 and self.dice.random() < self.far:
            word = kind[0]
            if word in ("record", "variant") and kind[1]:
                name, inner = self.dice.choice(kind[1])
                step = (field if word == "record" else arm)(name)
            elif word == "row":
                step, inner = ("at", kind[1]), kind[2]
            elif word == "maybe":
                step, inner = SOME, kind[1]
            else:
                break
            kind, more = seen(self.book, inner)
            boxes += more
            if boxes > 12:
                return self.shape()
            place += (step,)
        return place, kind

    def place(self, shape, deep=0):
        return tuple(at(self.index(step[1], deep)) if step[0] == "at" else step for step in shape)

    def index(self, many, deep):
        if deep >= 4 or self.dice.random() < self.near:
            return ("number", self.dice.randrange(many))
        return ("rem", self.expression("number", deep + 1), ("number", self.dice.choice((many, many, many + 1, 0))))

    def expression(self, sort, deep=0):
        dice = self.dice
        if deep >= 4 or dice.random() < 0.3:
            if self.plain[sort] and dice.random() < 0.7 and deep < 5:
                return ("get", self.place(dice.choice(self.plain[sort]), deep + 1))
            if sort == "truth":
                return ("truth", dice.random() < 0.6)
            return ("number", dice.choice((0, 1, 2, 3, -1, 255, 2 ** 64, -2 ** 64, dice.randrange(300))))
        if sort == "number":
            return (dice.choice(NUMBERS), self.expression(sort, deep + 1), self.expression(sort, deep + 1))
        word = dice.choice(("less", "like", "like", "not", "and", "or", "is"))
        if word == "is" and self.choices:
            shape, kind = dice.choice(self.choices)
            names = ("none", "some") if kind[0] == "maybe" else [name for name, inner in kind[1]]
            return ("is", self.place(shape, deep + 1), dice.choice(names))
        if word in ("not", "is"):
            return ("not", self.expression("truth", deep + 1))
        inner = {"less": "number", "like": dice.choice(("number", "truth"))}.get(word, "truth")
        return (word, self.expression(inner, deep + 1), self.expression(inner, deep + 1))

    def rows(self, deep, many=4):
        return tuple(self.statement(deep) for each in range(self.dice.randint(0, many)))

    def statement(self, deep):
        dice = self.dice
        words = ["set", "set", "put", "copy", "copy", "swap", "swap", "say", "show"]
        word = dice.choice(words + (["if", "while", "pick"] if deep < 3 else []))
        if word == "set":
            sort = dice.choice([sort for sort in self.plain if self.plain[sort]] or [None])
            if sort is None:
                return ("show", ())
            return ("set", self.place(dice.choice(self.plain[sort])), self.expression(sort, 2))
        if word == "say":
            return ("say", self.expression(dice.choice(("number", "truth"))))
        if word == "if":
            return ("if", self.expression("truth", 2), self.rows(deep + 1, 3), self.rows(deep + 1, 2))
        if word == "while":
            return ("while", self.expression("truth", 2), self.rows(deep + 1, 3))
        if word == "pick" and self.choices:
            shape, kind = dice.choice(self.choices)
            names = ("none", "some") if kind[0] == "maybe" else [name for name, inner in kind[1]]
            return ("pick", self.place(shape), tuple((name, self.rows(deep + 1, 2)) for name in names))
        shape, kind = dice.choice(self.places)
        if word == "put":
            return self.put(shape, kind)
        if word in ("copy", "swap"):
            others = [other for other, inner in self.places if alike(inner, kind) and other != shape]
            return (word, self.place(shape), self.place(dice.choice(others or [shape])))
        return ("show", self.place(shape))

    def put(self, shape, kind):
        try:
            worth = random_worth(self.dice, self.book, kind, self.dice.randint(0, 3))
        except ValueError:
            return ("show", self.place(shape))
        if misfit(self.book, kind, worth, boxes=4, most=200) is not None:
            return ("show", self.place(shape))
        return ("put", self.place(shape), worth)


def random_program(dice, book, frame, near=0.8, many=8, far=0.9):
    """A program of a frame that programfault lets by."""
    writing = Writing(dice, book, frame, near, far)
    while True:
        program = (frame, writing.rows(0, many))
        if programfault(book, program) is None:
            return program


def random_frame(dice, deep=2):
    """A record under BOOK that has a worth."""
    while True:
        kind = random_kind(dice, deep)
        if kind[0] == "record" and kind[1]:
            try:
                plainest(BOOK, kind)
            except ValueError:
                continue
            return kind
