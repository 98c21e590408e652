"""Random kinds that others have grown to, for tests; and growing told by hand."""

from packedforms.books import parts
from packedforms.reaches import kindfault
from tests.things import N8, NONE, T, maybe, nat, row
from tests.worlds import BOOK

FRESH = (T, N8, NONE, maybe(N8), row(2, nat(3)), ("use", "list", (N8,)), ("use", "tree", ()), ("box", T),
         ("variant", (("x", ("box", T)), ("y", T))))


def seen(book, kind):
    while kind[0] in ("use", "box"):
        kind = parts(book, kind)[0]
    return kind


class Grower:
    """Makes of a kind another one to which it grows, and tells what was renamed."""

    def __init__(self, dice, names=0.3):
        self.dice = dice
        # Of each name that was met the one that it has now, the same wherever it stands.
        self.names = {}
        self.often = names

    def name(self, name, taken):
        if name not in self.names:
            fresh = [each for each in ("new" + name, name) if each not in taken]
            self.names[name] = fresh[0] if self.dice.random() < self.often else name
        return self.names[name]

    def kind(self, kind):
        dice = self.dice
        if dice.random() < 0.15 and kind[0] in ("nat", "int", "truth", "record", "variant", "row"):
            return maybe(self.inner(kind))
        if dice.random() < 0.1:
            return ("box", self.inner(kind))
        return self.inner(kind)

    def inner(self, kind):
        dice, word = self.dice, kind[0]
        if word in ("nat", "int"):
            if word == "nat" and kind[1] < 64 and dice.random() < 0.3:
                return ("int", dice.randint(kind[1] + 1, 64))
            return (word, dice.choice((kind[1], dice.randint(kind[1], 64))))
        if word == "row":
            return row(min(16, kind[1] + dice.choice((0, 0, 1, 3))), self.kind(kind[2]))
        if word == "maybe":
            return maybe(self.kind(kind[1]))
        if word in ("record", "variant"):
            return (word, self.parts(kind[1]))
        if word == "box":
            return self.kind(kind[1]) if dice.random() < 0.2 else ("box", self.kind(kind[1]))
        return kind

    def parts(self, rows):
        dice = self.dice
        taken = [name for name, inner in rows]
        told = [(self.name(name, taken), self.kind(inner)) for name, inner in rows]
        while len(told) < 8 and dice.random() < 0.3:
            told.append(("fresh" + "abcdefgh"[len(told)], dice.choice(FRESH)))
        return tuple(dice.sample(told, len(told)))


def grown_pair(dice, kind):
    """A kind to which another one under BOOK grows, and what was renamed; None where it doesn't stand."""
    grower = Grower(dice)
    other = grower.kind(kind)
    renamed = tuple((name, now) for name, now in grower.names.items() if name != now)
    names = [now for name, now in renamed]
    if kindfault(BOOK, other) is not None or len(set(names)) < len(names):
        return None
    return other, renamed


def grown_by_hand(paper, worth, number=0):
    old, new, step = paper[number]
    word = step[0]
    if word in ("number", "truth"):
        return worth
    if word == "record":
        return tuple(fresh if source == -1 else grown_by_hand(paper, worth[source], link)
                     for source, link, fresh in step[1])
    if word == "variant":
        place = [name for name, inner in old[1]].index(worth[0])
        goal, link = step[1][place]
        return (new[1][goal][0], grown_by_hand(paper, worth[1], link))
    if word == "row":
        return tuple(grown_by_hand(paper, thing, step[1]) for thing in worth) + step[2]
    if word == "maybe":
        return tuple(grown_by_hand(paper, thing, step[1]) for thing in worth)
    return (grown_by_hand(paper, worth, step[1]),)


