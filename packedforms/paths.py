"""Paths into worths: where one leads, the part there, another part put there, and whether two can meet."""

from packedforms.errors import BadPath, Misfit, OutOfRow, WrongArm
from packedforms.kinds import is_between, is_tuple_of, is_whole
from packedforms.needs import MOST_BOXES, MOST_WORTH
from packedforms.reaches import standing_web
from packedforms.worths import arm_place, seen_through, toured

MOST_STEPS = 12


def named_link(web, number, name):
    """The number of the kind of a record's or variant's part, or None where it has none of that name."""
    place = arm_place(web.kinds[number], name)
    return None if place is None else web.links[number][place]


def stepped(web, number, step):
    """The number of the kind to which a step leads from a kind that is no use and no box, or None if it doesn't fit."""
    word = web.kinds[number][0]
    if word == "maybe":
        return web.links[number][0] if is_tuple_of(step, 1) and step[0] == "some" else None
    if not is_tuple_of(step, 2):
        return None
    if word == "record" and step[0] == "field":
        return named_link(web, number, step[1])
    if word == "variant" and step[0] == "arm":
        return named_link(web, number, step[1])
    if word == "row" and step[0] == "at" and is_whole(step[1]):
        return web.links[number][0]
    return None


def path_numbers(web, path):
    """The numbers of the kinds, as seen, ahead of each step of a path into the first kind, and at its end."""
    if not isinstance(path, tuple) or len(path) > MOST_STEPS:
        raise BadPath(-1)
    numbers = []
    link = 0
    boxes = 0
    for at in range(len(path) + 1):
        number, more = seen_through(web, link)
        boxes += more
        if boxes > MOST_BOXES:
            raise BadPath(at)
        numbers.append(number)
        if at < len(path):
            link = stepped(web, number, path[at])
            if link is None:
                raise BadPath(at)
    return numbers


def inner_place(kind, worth, step, at):
    """Where in a worth a step leads that fits its kind; at is the number of the step, told where it can't be gone."""
    word = kind[0]
    if word == "row":
        if not is_between(step[1], 0, kind[1] - 1):
            raise OutOfRow(at)
        return step[1]
    if word == "record":
        return arm_place(kind, step[1])
    is_there = worth[0] == step[1] if word == "variant" else worth != ()
    if not is_there:
        raise WrongArm(at)
    return len(worth) - 1


def gone_through(web, worth, path):
    """The rows (worth, place in it) of all steps of a path into a worth, and the part at its end."""
    numbers = path_numbers(web, path)
    rows = []
    thing = worth
    for at, step in enumerate(path):
        place = inner_place(web.kinds[numbers[at]], thing, step, at)
        rows.append((thing, place))
        thing = thing[place]
    return (rows, thing)


def part_in(web, worth, path):
    """The part of a worth at a path."""
    return gone_through(web, worth, path)[1]


def refuse_misfit(web, worth):
    """Refuses what is no worth of the first kind of a web."""
    misfit_path = toured(web, worth, MOST_BOXES, MOST_WORTH)[0]
    if misfit_path is not None:
        raise Misfit(misfit_path)


def rebuilt(rows, other):
    """The whole with another part at the end of a way, told by its rows (worth, place in it)."""
    whole = other
    for thing, place in rows[::-1]:
        whole = thing[:place] + (whole,) + thing[place + 1:]
    return whole


def replaced_in(web, worth, path, other):
    """The worth with another part at a path."""
    whole = rebuilt(gone_through(web, worth, path)[0], other)
    refuse_misfit(web, whole)
    return whole


def first_unlike(one, other):
    """The number of the first step in which two paths are unlike, or None where one begins the other."""
    for at, (mine, theirs) in enumerate(zip(one, other)):
        if mine != theirs:
            return at
    return None


def path_end(book, kind, path):
    """The kind, as seen, to which a path leads."""
    web = standing_web(book, kind)
    return web.kinds[path_numbers(web, path)[-1]]


def part(book, kind, worth, path):
    """The part of a worth at a path."""
    return part_in(standing_web(book, kind), worth, path)


def replaced(book, kind, worth, path, other):
    """The worth with another part at a path, all else as it was."""
    return replaced_in(standing_web(book, kind), worth, path, other)


def meeting(book, kind, one, other):
    """How two paths into a kind go together: ("within", k), ("arms", k) or ("apart", k)."""
    web = standing_web(book, kind)
    path_numbers(web, one)
    path_numbers(web, other)
    at = first_unlike(one, other)
    if at is None:
        return ("within", min(len(one), len(other)))
    return ("arms" if one[at][0] == other[at][0] == "arm" else "apart", at)
