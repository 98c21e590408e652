"""Patterns and images: the live slots of a pattern, what may be one, and worths laid in bits and read back."""

from packedforms.errors import BadImage, Misfit
from packedforms.kinds import is_between, is_tuple_of, is_whole, power
from packedforms.needs import MOST_BOXES, MOST_WORTH
from packedforms.plans import NO_ADDRESS, POINT, ROOT, bits_in, block, host_slots, size
from packedforms.worths import arm_place, coded, decoded, misfit

POINT_WORDS = ("box", "far")


class Walk:
    """A walk over a pattern: the live slots met so far, and how many parts of the worth lie in its own bits."""

    def __init__(self, plan, pattern):
        self.plan = plan
        self.pattern = pattern
        self.slots = []
        self.met = 0


class Lay:
    """A pattern while a worth is laid, and what its points lead to: rows (entry, worth, place of the point)."""

    def __init__(self, plan):
        self.plan = plan
        self.pattern = 0
        self.behind = []


def bits_at(number, at, wide):
    """The number in so many bits of a number, from bit at on."""
    return (number >> at) & (power(wide) - 1)


def mask_at(at, wide):
    """A number whose bits are 1 just in this stretch."""
    return (power(wide) - 1) << at


def arm_there(plan, form, tag):
    """The number of the arm that a pick has where its tag slot has this pattern, or None."""
    for number, arm in enumerate(form[5]):
        if number != form[4] and arm[0] == tag:
            return number
    if form[4] != -1 and tag < host_slots(plan, form)[0][2]:
        return form[4]
    return None


def arm_in(plan, entry, pattern, at):
    """The number of the arm of a pick that lies at a place of a pattern, or None."""
    form = plan[entry][1]
    return arm_there(plan, form, bits_at(pattern, at + form[2], form[3]))


def arm_step(kind, arm):
    """The step into an arm of a variant or a maybe."""
    return ("some",) if kind[0] == "maybe" else ("arm", kind[1][arm][0])


def walk_part(walk, path, at, entry, far):
    """Walks over a part of fields or of a pick that lies at a place."""
    if far:
        walk.slots.append((path, at, POINT, "far", entry))
    elif entry != -1:
        walk_entry(walk, path, at, entry)


def walk_entry(walk, path, at, entry):
    """Walks over a thing laid as an entry at a place."""
    kind, form = walk.plan[entry]
    word = form[0]
    if word == "point":
        walk.slots.append((path, at, POINT, "box", form[1]))
        return
    if word == "same":
        walk_entry(walk, path, at, form[1])
        return
    walk.met += 1
    if word == "slot":
        walk.slots.append((path, at, form[1], "truth" if kind[0] == "truth" else "number", entry))
    elif word == "fields":
        for part, (place, inner, far) in zip(kind[1], form[2]):
            walk_part(walk, path + (("field", part[0]),), at + place, inner, far)
    elif word == "run":
        for number in range(kind[1]):
            walk_entry(walk, path + (("at", number),), at + number * form[1], form[2])
    else:
        walk_pick(walk, path, at, entry)


def walk_pick(walk, path, at, entry):
    """Walks over a pick: its tag slot, where that is live, and the part that is there."""
    kind, form = walk.plan[entry]
    arm = arm_in(walk.plan, entry, walk.pattern, at)
    if form[3] > 0 and arm != form[4]:
        walk.slots.append((path, at + form[2], form[3], "tag", entry))
    if arm is not None:
        code, place, inner, far = form[5][arm]
        walk_part(walk, path + (arm_step(kind, arm),), at + place, inner, far)


def walk_over(plan, entry, pattern):
    """The whole walk over a pattern of an entry."""
    walk = Walk(plan, pattern)
    walk_entry(walk, (), 0, entry)
    return walk


def rows_of(plan, entry, pattern):
    """The live slots of a pattern, (path, at, wide, word, entry), in the order of the walk."""
    return tuple(walk_over(plan, entry, pattern).slots)


def points_of(slots):
    """Those of the live slots that are points."""
    return [slot for slot in slots if slot[3] in POINT_WORDS]


def slot_fault(plan, slot, pattern):
    """The word for what is wrong with what a live slot has, or None."""
    path, at, wide, word, entry = slot
    number = bits_at(pattern, at, wide)
    if word == "tag":
        return "tag" if arm_there(plan, plan[entry][1], number) is None else None
    if word in POINT_WORDS:
        return "point" if number >= NO_ADDRESS else None
    return word if number >= power(bits_in(plan[entry][0])) else None


def slots_fault(walk):
    """The first live slot that has what none has there, (path, why), or None."""
    for slot in walk.slots:
        why = slot_fault(walk.plan, slot, walk.pattern)
        if why is not None:
            return (slot[0], why)
    return None


def has_gap(walk):
    """Whether a bit in no live slot is 1."""
    live = 0
    for path, at, wide, word, entry in walk.slots:
        live |= mask_at(at, wide)
    return (walk.pattern | live) != live


def walk_fault(walk):
    """The first fault of a pattern that has no bits beyond its entry's, (path, why), or None."""
    fault = slots_fault(walk)
    if fault is not None:
        return fault
    return ((), "gap") if has_gap(walk) else None


def is_pattern(plan, entry, thing):
    """Whether it is a whole number that an entry's bits can hold."""
    return is_between(thing, 0, power(size(plan, entry)) - 1)


def patternfault(plan, entry, pattern):
    """None where any written thing may be a pattern of an entry, else its first fault, (path, why)."""
    if not is_pattern(plan, entry, pattern):
        return ((), "pattern")
    return walk_fault(walk_over(plan, entry, pattern))


def is_image(thing, entry):
    """Whether a thing has the form of an image of this entry, whatever its pattern and its images are."""
    if not is_tuple_of(thing, 3) or not isinstance(thing[2], tuple):
        return False
    return is_whole(thing[0]) and thing[0] == entry


def points_fault(walk, points, many):
    """The first fault of an image's points, (path, why), or None; it has so many images."""
    for path, at, wide, word, entry in points:
        if bits_at(walk.pattern, at, wide) != 0:
            return (path, "point")
    return ((), "images") if many != len(points) else None


def imagefault(plan, image, *, entry=ROOT):
    """None where any written thing is an image of some worth under an entry, else its first fault, (path, why)."""
    met = 0
    left = [((), image, entry, 0)]
    while left:
        path, thing, due, boxes = left.pop()
        if boxes > MOST_BOXES:
            return (path, "deep")
        if not is_image(thing, due):
            return (path, "image")
        if not is_pattern(plan, due, thing[1]):
            return (path, "pattern")
        walk = walk_over(plan, due, thing[1])
        points = points_of(walk.slots)
        fault = walk_fault(walk)
        if fault is None:
            fault = points_fault(walk, points, len(thing[2]))
        if fault is not None:
            return (path + fault[0], fault[1])
        met += walk.met
        if met > MOST_WORTH:
            return (path, "parts")
        rows = [(path + point[0], inner, point[4], boxes + (1 if point[3] == "box" else 0))
                for point, inner in zip(points, thing[2])]
        left.extend(rows[::-1])
    return None


def lay_part(lay, at, entry, far, worth):
    """Lays a part of fields or of a pick at a place."""
    if far:
        lay.behind.append((entry, worth, at))
    else:
        lay_entry(lay, at, entry, worth)


def lay_entry(lay, at, entry, worth):
    """Lays a worth as an entry at a place."""
    kind, form = lay.plan[entry]
    word = form[0]
    if word == "slot":
        lay.pattern |= coded(kind, worth) << at
    elif word == "point":
        lay.behind.append((form[1], worth, at))
    elif word == "same":
        lay_entry(lay, at, form[1], worth)
    elif word == "fields":
        for (place, inner, far), thing in zip(form[2], worth):
            lay_part(lay, at + place, inner, far, thing)
    elif word == "run":
        for number, thing in enumerate(worth):
            lay_entry(lay, at + number * form[1], form[2], thing)
    else:
        lay_pick(lay, at, entry, worth)


def lay_pick(lay, at, entry, worth):
    """Lays a worth of a variant or a maybe at a place."""
    kind, form = lay.plan[entry]
    arm = len(worth) if kind[0] == "maybe" else arm_place(kind, worth[0])
    code, place, inner, far = form[5][arm]
    if arm != form[4]:
        lay.pattern |= code << (at + form[2])
    if inner != -1:
        lay_part(lay, at + place, inner, far, worth[-1])


def laid_sheets(plan, entry, worth):
    """The sheets of a worth's image: rows (entry, pattern, above, at), an image's own ahead of those of its images;
    above is the number of the sheet that has the point to this one, at the place of that point (-1, 0 of the first)."""
    sheets = []
    left = [(entry, worth, -1, 0)]
    while left:
        due, thing, above, at = left.pop()
        lay = Lay(plan)
        lay_entry(lay, 0, due, thing)
        rows = [(inner, each, len(sheets), place) for inner, each, place in lay.behind]
        sheets.append((due, lay.pattern, above, at))
        left.extend(rows[::-1])
    return sheets


def image_sheets(plan, image):
    """The sheets of an image."""
    sheets = []
    left = [(image, -1, 0)]
    while left:
        (entry, pattern, images), above, at = left.pop()
        points = points_of(walk_over(plan, entry, pattern).slots)
        rows = [(inner, len(sheets), point[1]) for inner, point in zip(images, points)]
        sheets.append((entry, pattern, above, at))
        left.extend(rows[::-1])
    return sheets


def sheets_image(sheets):
    """The image that has these sheets."""
    image = None
    behind = [[] for sheet in sheets]
    # From the last one on, so that each sheet comes when all that is behind it stands.
    for number in reversed(range(len(sheets))):
        entry, pattern, above, at = sheets[number]
        image = (entry, pattern, tuple(behind[number][::-1]))
        if above != -1:
            behind[above].append(image)
    return image


def part_worth(plan, pattern, at, entry, far, behind):
    """The worth of a part of fields or of a pick that lies at a place."""
    return behind.pop() if far else entry_worth(plan, pattern, at, entry, behind)


def entry_worth(plan, pattern, at, entry, behind):
    """The worth of a thing laid as an entry at a place; behind are the worths behind points, the next one last."""
    kind, form = plan[entry]
    word = form[0]
    if word == "slot":
        return decoded(kind, bits_at(pattern, at, form[1]))
    if word == "point":
        return behind.pop()
    if word == "same":
        return entry_worth(plan, pattern, at, form[1], behind)
    if word == "fields":
        return tuple([part_worth(plan, pattern, at + place, inner, far, behind) for place, inner, far in form[2]])
    if word == "run":
        places = [at + number * form[1] for number in range(kind[1])]
        return tuple([entry_worth(plan, pattern, place, form[2], behind) for place in places])
    arm = arm_in(plan, entry, pattern, at)
    code, place, inner, far = form[5][arm]
    if inner == -1:
        return ()
    thing = part_worth(plan, pattern, at + place, inner, far, behind)
    return (thing,) if kind[0] == "maybe" else (kind[1][arm][0], thing)


def sheets_worth(plan, sheets):
    """The worth whose image has these sheets."""
    worth = None
    behind = [[] for sheet in sheets]
    for number in reversed(range(len(sheets))):
        entry, pattern, above, at = sheets[number]
        worth = entry_worth(plan, pattern, 0, entry, behind[number])
        if above != -1:
            behind[above].append(worth)
    return worth


def sheets_weight(plan, sheets):
    """How many bytes the blocks of these sheets have."""
    return sum([block(plan, sheet[0]) for sheet in sheets])


def imaged(book, plan, worth, *, entry=ROOT):
    """The image of a worth under an entry."""
    path = misfit(book, plan[entry][0], worth)
    if path is not None:
        raise Misfit(path)
    return sheets_image(laid_sheets(plan, entry, worth))


def worth_of(plan, image, *, entry=ROOT):
    """The worth that has this image under an entry."""
    fault = imagefault(plan, image, entry=entry)
    if fault is not None:
        raise BadImage(fault[0], fault[1])
    return sheets_worth(plan, image_sheets(plan, image))


def weight(plan, image):
    """How many bytes the blocks of an image and of all images in it have."""
    return sheets_weight(plan, image_sheets(plan, image))
