"""Random books, kinds, plans that hold, and worths, for tests; always the same ones for the same dice."""

from packedforms.books import parts
from packedforms.needs import plainest
from packedforms.plancheck import planfault
from packedforms.plans import align, part_align, part_size, part_spares, size
from packedforms.reaches import heights, kindfault, reach
from tests.things import BOXES, LIST, NONE, T, box, hole, maybe, nat, record, row, use, whole

BOOK = LIST + BOXES + (("pair", ("a", "b"), record(one=hole("a"), two=hole("b"))), ("flag", (), T))


def up(number, multiple):
    return -(-number // multiple) * multiple


def random_kind(dice, deep=3):
    """A kind that stands under BOOK and whose plain plan isn't too wide."""
    while True:
        kind = any_kind(dice, deep)
        if kindfault(BOOK, kind) is None:
            return kind


def any_kind(dice, deep):
    plain = (T, nat(dice.randint(1, 64)), whole(dice.randint(1, 40)), nat(dice.randint(1, 7)), NONE)
    if deep == 0:
        return dice.choice(plain)
    word = dice.choice(("plain", "record", "record", "variant", "variant", "row", "maybe", "box", "use"))
    if word == "plain":
        return dice.choice(plain)
    if word in ("record", "variant"):
        many = dice.choice((1, 2, 2, 3, 3, 4, 7))
        names = dice.sample("abcdefgh", many)
        return (word, tuple((name, any_kind(dice, deep - 1)) for name in names))
    inner = any_kind(dice, deep - 1)
    if word == "row":
        return row(dice.choice((1, 2, 3, 5)), inner)
    if word == "maybe":
        return maybe(inner)
    if word == "box":
        return box(inner)
    return dice.choice((use("list", inner), use("tree"), use("chain"), use("flag"), use("one", inner),
                        use("pair", inner, any_kind(dice, deep - 1))))


def random_worth(dice, book, kind, boxes=4):
    """A worth of a kind that has one, with about so many boxes within one another at most."""
    word = kind[0]
    if boxes <= 0 and word in ("variant", "box", "use"):
        return plainest(book, kind)
    if word == "truth":
        return dice.random() < 0.5
    if word == "nat":
        return dice.choice((0, 2 ** kind[1] - 1, dice.randrange(2 ** kind[1])))
    if word == "int":
        half = 2 ** (kind[1] - 1)
        return dice.choice((-half, half - 1, -1 if half else 0, dice.randint(-half, half - 1)))
    if word == "row":
        return tuple(random_worth(dice, book, kind[2], boxes) for each in range(kind[1]))
    if word == "maybe":
        return () if boxes <= 0 or dice.random() < 0.3 else (random_worth(dice, book, kind[1], boxes),)
    if word == "record":
        return tuple(random_worth(dice, book, inner, boxes) for name, inner in kind[1])
    if word == "variant":
        name, inner = dice.choice(kind[1])
        return (name, random_worth(dice, book, inner, boxes))
    return random_worth(dice, book, parts(book, kind)[0], boxes - (word == "box"))


class Wild:
    """Makes plans that hold, but are laid in no particular way: gaps, far parts, tags anywhere."""

    def __init__(self, dice, book, kind):
        self.dice = dice
        self.book = book
        self.kinds = reach(book, kind)
        self.plan = [(each, None) for each in self.kinds]
        tall = heights(book, kind)
        for number in sorted(range(len(tall)), key=lambda each: tall[each]):
            each = self.kinds[number]
            links = [self.kinds.index(part) for part in parts(book, each)]
            self.plan[number] = (each, self.form(each, links))

    def form(self, kind, links):
        word = kind[0]
        if word in ("nat", "int", "truth"):
            bits = 1 if word == "truth" else kind[1]
            wides = [wide for wide in (8, 16, 32, 64) if wide >= bits] + ([bits] * 3 if bits < 8 else [])
            return ("slot", self.dice.choice(wides))
        if word == "box":
            return ("point", links[0])
        if word == "use":
            return ("same", links[0])
        if word == "row":
            multiple = align(self.plan, links[0])
            stride = up(size(self.plan, links[0]), multiple) + multiple * self.dice.choice((0, 0, 0, 1))
            return ("run", stride, links[0])
        if word == "record":
            return self.fields(links)
        return self.pick(kind, links)

    def gap(self):
        return self.dice.choice((0, 0, 0, 1, 9))

    def far(self, entry):
        return self.dice.random() < (0.8 if size(self.plan, entry) > 300 else 0.2)

    def fields(self, links):
        rows = [None] * len(links)
        end = 0
        for number in self.dice.sample(range(len(links)), len(links)):
            entry, far = links[number], self.far(links[number])
            at = up(end + self.gap(), part_align(self.plan, entry, far))
            rows[number] = (at, entry, far)
            end = at + part_size(self.plan, entry, far)
        return ("fields", end + self.gap(), tuple(rows))

    def pick(self, kind, links):
        arms = [(entry, self.far(entry)) for entry in links]
        if kind[0] == "maybe":
            arms.insert(0, (-1, False))
        hosted = [(host, slot) for host, (entry, far) in enumerate(arms)
                  for slot in part_spares(self.plan, 0, entry, far) if 2 ** slot[1] - slot[2] >= len(arms) - 1]
        if hosted and len(arms) > 1 and self.dice.random() < 0.7:
            return self.hosted(arms, *self.dice.choice(hosted))
        wide = self.dice.choice([wide for wide in range(9) if 2 ** wide >= len(arms)])
        multiple = 8 if wide == 8 else 1
        codes = self.dice.sample(range(2 ** wide), len(arms))
        at = up(self.gap(), multiple)
        if self.dice.random() < 0.5:
            places = [up(at + wide + self.gap(), part_align(self.plan, *arm)) for arm in arms]
        else:
            places = [up(self.gap(), part_align(self.plan, *arm)) for arm in arms]
            at = up(max(place + part_size(self.plan, *arm) for place, arm in zip(places, arms)), multiple)
        return self.ended(arms, places, (at, wide), -1, codes)

    def hosted(self, arms, host, slot):
        start = up(self.gap(), part_align(self.plan, *arms[host]))
        at, wide, first = start + slot[0], slot[1], slot[2]
        most = min(2 ** wide - 1, first + 100)
        codes = self.dice.sample(range(first, most + 1), min(len(arms), most + 1 - first))
        codes = (codes + codes)[:len(arms)]
        if host < len(arms) - 1 and len(set(codes)) < len(arms):
            codes[-1] = codes[host]
        codes[host] = -1
        places = []
        for number, arm in enumerate(arms):
            bits, multiple = part_size(self.plan, *arm), part_align(self.plan, *arm)
            behind = bits > at or self.dice.random() < 0.3
            places.append(start if number == host else up(at + wide, multiple) if behind else 0)
        return self.ended(arms, places, (at, wide), host, codes)

    def ended(self, arms, places, tag, host, codes):
        ends = [place + part_size(self.plan, *arm) for place, arm in zip(places, arms)] + [sum(tag)]
        rows = tuple((code, place, entry, far) for code, place, (entry, far) in zip(codes, places, arms))
        return ("pick", max(ends) + self.gap(), tag[0], tag[1], host, rows)


def wild_plan(dice, book, kind):
    """A plan of a kind that holds, or None where it came out too wide."""
    plan = tuple(Wild(dice, book, kind).plan)
    fault = planfault(book, plan)
    assert fault is None or fault[1] == "size", (plan, fault)
    return plan if fault is None else None


def random_world(dice, deep=3):
    """A kind under BOOK that has worths, and a plan of it that holds."""
    while True:
        kind = random_kind(dice, deep)
        try:
            plainest(BOOK, kind)
        except ValueError:
            continue
        plan = wild_plan(dice, BOOK, kind)
        if plan is not None:
            return kind, plan
