"""A simple maker of plans for tests, reckoning sizes and aligns by itself."""

from packedforms.reaches import reach
from packedforms.books import parts

WIDES = (8, 16, 32, 64)


def up(number, align):
    return -(-number // align) * align


def bits_of(kind):
    return 1 if kind[0] == "truth" else kind[1]


class Planning:
    """Makes the plan of a kind: fields one behind the other, tags ahead in 8 bits, slots as small as may be."""

    def __init__(self, book, kind, gap=0, wide=None):
        self.book = book
        self.kinds = reach(book, kind)
        self.gap = gap
        self.least = wide
        self.laid = {}

    def entry(self, kind):
        return self.kinds.index(kind)

    def plan(self):
        return tuple([(kind, self.of(kind)[0]) for kind in self.kinds])

    def of(self, kind):
        """(form, size, align) of a kind's entry."""
        if kind not in self.laid:
            self.laid[kind] = self.made(kind)
        return self.laid[kind]

    def made(self, kind):
        word = kind[0]
        inner = parts(self.book, kind)
        if word in ("nat", "int", "truth"):
            wide = self.wide(bits_of(kind))
            return (("slot", wide), wide, wide if wide >= 8 else 1)
        if word == "box":
            return (("point", self.entry(inner[0])), 16, 16)
        if word == "use":
            return (("same", self.entry(inner[0])),) + self.of(inner[0])[1:]
        if word == "row":
            form, size, align = self.of(inner[0])
            stride = up(size, align) + align * self.gap
            return (("run", stride, self.entry(inner[0])), stride * (kind[1] - 1) + size, align)
        if word == "record":
            return self.fields(inner)
        return self.pick(kind, inner)

    def wide(self, bits):
        if bits < 8 and not self.least:
            return bits
        return min(wide for wide in WIDES if wide >= max(bits, self.least or 8))

    def fields(self, inner):
        rows, end, most = [], 0, 1
        for kind in inner:
            form, size, align = self.of(kind)
            at = up(end + self.gap, align)
            rows.append((at, self.entry(kind), False))
            end = at + size
            most = max(most, align)
        return (("fields", end + self.gap, tuple(rows)), end + self.gap, most)

    def pick(self, kind, inner):
        arms, end, most = [], 8, 8
        for code, part in enumerate(inner):
            form, size, align = self.of(part)
            at = up(8, align)
            arms.append((code + (kind[0] == "maybe"), at, self.entry(part), False))
            end = max(end, at + size)
            most = max(most, align)
        if kind[0] == "maybe":
            arms.insert(0, (0, 0, -1, False))
        return (("pick", end, 0, 8, -1, tuple(arms)), end, most)


def simple_plan(book, kind, gap=0, wide=None):
    return Planning(book, kind, gap, wide).plan()


def with_form(plan, entry, form):
    """The plan with another form at an entry."""
    return plan[:entry] + ((plan[entry][0], form),) + plan[entry + 1:]


def changed(thing, place, other):
    """The written thing with another thing at a place."""
    if not place:
        return other
    return thing[:place[0]] + (changed(thing[place[0]], place[1:], other),) + thing[place[0] + 1:]
