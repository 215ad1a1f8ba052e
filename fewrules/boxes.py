"""Theories for slots that fit, and trees of boxes that show which ones do, or that none does."""

from itertools import combinations

from fewrules.flat import flat_theory
from fewrules.slots import check_slots, slots_of, told_facts, told_steps
from fewrules.splits import Splits
from fewrules.trees import Judge

FIRST_LOOKS = 2000
FEWER_LOOKS = 1000
MOST_TURNS = 3


def search(task, slots):
    """Return ("theory", theory) with a theory for the slots that fits, or ("none", refutation)."""
    check_slots(task, slots)
    return search_for(slots_of(task, slots))


def search_for(slots):
    """Return what search does, for slots with their examples."""
    word, told = found_for(slots)
    if word == "theory":
        return (word, slots.theory_of(told))
    return ("none", told_tree(slots, told))


def found_for(slots):
    """Return ("theory", mask) with a theory that fits, or ("tree", tree)."""
    splits = Splits(slots, False)
    mask = flat_theory(slots)
    if mask is not None:
        return ("theory", mask)
    if not slots.task.calls:
        return splits.search(0, slots.everything, None)
    # Where a search is long, a theory is often found soon with fewer slots, or if the atoms are tried in other orders.
    found = splits.search(0, slots.everything, FIRST_LOOKS) or found_with_fewer(splits)
    for turn in range(1, MOST_TURNS):
        if found is None:
            splits.way = turn
            found = splits.search(0, slots.everything, FIRST_LOOKS * turn)
    splits.way = 0
    return found or splits.search(0, slots.everything, None)


def found_with_fewer(splits):
    """Return ("theory", mask) with a theory that fits in which some bodies have all atoms, or None."""
    slots = splits.slots
    places = list(range(len(slots.names)))
    tried = {}
    for size in range(1, len(places)):
        for chosen in combinations(places, size):
            names = tuple(sorted([slots.names[place] for place in chosen]))
            if names not in tried:
                tried[names] = True
                must = slots.joined([0 if place in chosen else slots.whole for place in places])
                found = splits.search(must, slots.everything, FEWER_LOOKS)
                if found is not None and found[0] == "theory":
                    return found
    return None


def chart(task, slots):
    """Return a tree for the whole box."""
    check_slots(task, slots)
    held = slots_of(task, slots)
    return told_tree(held, charted(held))


def charted(slots):
    """Return a tree for the whole box, as the search tells it."""
    return Splits(slots, True).search(0, slots.everything, None)[1]


def told_tree(slots, tree):
    """Return the tree that the search told, as the document tells it."""
    waiting = [tree]
    ahead = []
    while waiting:
        node = waiting.pop()
        ahead.append(node)
        if is_split(node):
            waiting.extend(node[2:])
    done = []
    for node in reversed(ahead):
        if is_split(node):
            second = done.pop()
            first = done.pop()
            done.append(("split", *slots.place_of(node[1]), first, second))
        else:
            done.append(all_leaf(slots, node[1], node[2]) if isinstance(node, tuple) else node.told())
    return done[0]


def is_split(node):
    """Return True if the tree is a split, and no leaf."""
    return isinstance(node, tuple) and node[0] == "split"


def all_leaf(slots, must, may):
    """Return the leaf "all" for a box."""
    closed = []
    stages = []
    for scene in slots.scenes:
        closed.append(told_facts(scene, scene.least(slots.rules_of(must))))
        stages.append(told_steps(scene, scene.steps_of(slots.rules_of(may))))
    return ("all", closed, stages)


def accepts_tree(task, slots, tree):
    """Return True if the tree is one for the whole box."""
    check_slots(task, slots)
    return Judge(slots_of(task, slots)).accepts(tree)


def accepts_refutation(task, slots, tree):
    """Return True if the tree is a refutation."""
    check_slots(task, slots)
    return is_refutation(slots_of(task, slots), tree)


def is_refutation(slots, tree):
    """Return True if the tree is a refutation for slots with their examples."""
    return Judge(slots).accepts(tree) and not has_all(tree)


def has_all(tree):
    """Return True if a leaf of the tree is "all"."""
    waiting = [tree]
    while waiting:
        node = waiting.pop()
        if node[0] == "all":
            return True
        if node[0] == "split":
            waiting.extend(node[3:])
    return False


def boxes_of(task, slots, tree):
    """Return the list of the boxes of the leaves "all" of a tree for the whole box, from the first to the last."""
    check_slots(task, slots)
    held = slots_of(task, slots)
    found = []
    waiting = [(0, held.everything, tree)]
    while waiting:
        must, may, node = waiting.pop()
        if node[0] == "split":
            digit = held.digit_at(node[1], node[2])
            waiting.append((must, may & ~digit, node[4]))
            waiting.append((must | digit, may, node[3]))
        if node[0] == "all":
            found.append(list(zip(held.bodies_of(must), held.bodies_of(may))))
    return found
