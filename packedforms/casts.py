"""Casts: images and stores from plan to plan, and old bytes read by a kind that has grown."""

from packedforms.blocks import Heap, keep_root
from packedforms.books import refuse_book
from packedforms.errors import BadPaper, BadPlan, Full
from packedforms.growcheck import growfault
from packedforms.growth import grown
from packedforms.images import laid_sheets, sheets_image, sheets_weight, worth_of
from packedforms.kinds import alike
from packedforms.needs import MOST_BOXES
from packedforms.paths import refuse_misfit
from packedforms.plancheck import refuse_plan
from packedforms.plans import ROOT, plan_web
from packedforms.worths import seen_through


def cast(plan, other, image):
    """The image under another plan of the worth that an image has."""
    return sheets_image(laid_sheets(other, ROOT, worth_of(plan, image)))


def read_grown(plan, image, paper):
    """What the worth of an image under an old plan grows to."""
    return grown(paper, worth_of(plan, image))


def root_worths(store):
    """The worths of all roots, rows (handle, worth) by rising handles."""
    return [(handle, store.worth(handle)) for handle in sorted(store.heap.roots)]


def lay_anew(store, plan, worths):
    """Lays these worths under a plan, one by one, in the place of all that a store has."""
    rows = [(handle, laid_sheets(plan, ROOT, worth)) for handle, worth in worths]
    need = sum([sheets_weight(plan, sheets) for handle, sheets in rows])
    room = store.heap.room
    if need > room:
        raise Full(need, room)
    heap = Heap(plan, room)
    for handle, sheets in rows:
        keep_root(heap, handle, sheets)
    store.heap = heap


def recast_roots(store, other):
    """Lays all roots of a store under another plan."""
    refuse_plan(store.book, other)
    if not alike(store.heap.plan[ROOT][0], other[ROOT][0]):
        raise BadPlan(ROOT, "root")
    lay_anew(store, other, root_worths(store))


def seen_root(plan):
    """The kind of a plan's root as seen, or None where there are too many boxes."""
    number, boxes = seen_through(plan_web(plan), ROOT)
    return plan[number][0] if boxes <= MOST_BOXES else None


def refuse_paper(store, new, plan, paper):
    """Refuses a paper that doesn't lead from a store's root to the root of a plan of a new book."""
    fault = growfault(store.book, new, paper)
    if fault is not None:
        raise BadPaper(fault[0], fault[1])
    # A row has no kind that is None.
    if not alike((seen_root(store.heap.plan), seen_root(plan)), paper[0][:2]):
        raise BadPaper(0, "root")


def regrow_roots(store, new, plan, paper):
    """Lays what each root of a store grows to under a plan of a new book."""
    refuse_book(new)
    refuse_plan(new, plan)
    refuse_paper(store, new, plan, paper)
    worths = [(handle, grown(paper, worth)) for handle, worth in root_worths(store)]
    web = plan_web(plan)
    for handle, worth in worths:
        refuse_misfit(web, worth)
    lay_anew(store, plan, worths)
    store.book = new


def recast(store, other):
    """Lays all roots of a store under another plan; handles stay."""
    store.begun += 1
    try:
        recast_roots(store, other)
    finally:
        store.ended += 1


def regrown(store, new, plan, paper):
    """Makes each root of a store what it grows to by a paper, laid under a plan of a new book; handles stay."""
    store.begun += 1
    try:
        regrow_roots(store, new, plan, paper)
    finally:
        store.ended += 1
