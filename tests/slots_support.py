"""What the tests of theories for slots use: ready tasks, and what the document says of them by plain enumeration."""

from itertools import product

from fewrules.calls import accepts_stages, is_closed, least_set, theory_fits
from fewrules.tasks import Signature, Task
from fewrules.texts import read_task
from fewrules.worlds import World
from tests.plain_support import all_parts
from tests.support import all_rows

CHAIN = World(["a", "b", "c", "d"], [("tie", ("a", "b")), ("tie", ("b", "c")), ("tie", ("c", "d"))])
WAYS = Task(
    Signature([("tie", 2)], [("way", 2)]),
    [],
    [CHAIN],
    3,
    good=[(0, "way", ("a", "b")), (0, "way", ("a", "c")), (0, "way", ("a", "d"))],
    bad=[(0, "way", ("d", "b")), (0, "way", ("a", "a"))],
    calls=True,
)
WAYS_THEORY = [("way", (1,)), ("way", (2, 16))]
# The atoms are red(a) and goal(a), 0 and 1; ann is red, bob is not, and world 1 has nobody red.
REDS = read_task(
    "known red 1\nunknown goal 1\nnames 1 calls\nworld ann bob\nfact red(ann)\nworld eve\n"
    "good 0 goal(ann)\nbad 0 goal(bob)\n"
)
# How far it is to the end of a line: even numbers of steps and odd ones, each relation the other one's helper.
PARITY_TEXT = (
    "known next 2\nknown last 1\nunknown even 1\nunknown odd 1\nnames 2 calls\n"
    "world a b c d e\nfact next(a,b)\nfact next(b,c)\nfact next(c,d)\nfact next(d,e)\nfact last(e)\n"
    "good 0 even(a)\ngood 0 even(c)\ngood 0 even(e)\nbad 0 even(b)\nbad 0 even(d)\n"
)


def with_lists(task, good, bad):
    return Task(
        task.signature, task.background, task.worlds, task.names, good=good, bad=bad, calls=task.calls
    )


def small_task(source, calls, most=2, unknown=None):
    """A task with few atoms, and names of slots, so that all theories for them can be gone through."""
    known = source.choice([[("red", 1)], [("red", 1), ("big", 1)], [("tie", 2)]])
    unknown = unknown or source.choice([[("goal", 1)], [("goal", 1)], [("goal", 1), ("aim", 1)]])
    names = source.randint(1, 2) if known != [("tie", 2)] else 2
    if len(known) == 2 or len(unknown) == 2 and known == [("tie", 2)]:
        names = 1
    worlds = []
    for _ in range(source.randint(1, 2)):
        constants = ["c", "a", "b"][:source.randint(2, 3)]
        facts = [(name, row) for name, places in known for row in all_rows(constants, places)]
        worlds.append(World(constants, [fact for fact in facts if source.random() < 0.5]))
    pool = [(at, name, row) for at, world in enumerate(worlds) for name, places in unknown
            for row in all_rows(world.constants, places)]
    source.shuffle(pool)
    good, bad = source.randint(0, most), source.randint(0, most)
    task = Task(Signature(known, unknown), [], worlds, names, good=pool[:good], bad=pool[good:good + bad], calls=calls)
    count = 2 if len(task.atoms) <= 4 else 1
    return task, [source.choice(unknown)[0] for _ in range(source.randint(1, count))]


def in_order(task, theory):
    """What theories are ordered by: for each slot which atoms its body has, from the least on."""
    return [[at in body for at in range(len(task.atoms))] for _, body in theory]


def all_theories(task, slots):
    """All theories for the slots, in order."""
    bodies = all_parts(range(len(task.atoms)))
    found = [[(name, body) for name, body in zip(slots, chosen)] for chosen in product(bodies, repeat=len(slots))]
    return sorted(found, key=lambda theory: in_order(task, theory))


def naive_fitting(task, slots):
    return [theory for theory in all_theories(task, slots) if theory_fits(task, theory)]


def is_within(first, second):
    """Whether each body of the first theory is a part of the one of the second at the same place."""
    return all(set(one[1]) <= set(other[1]) for one, other in zip(first, second))


def in_box(task, theory, box):
    """Whether the theory lies in the box."""
    bodies = [body for _, body in theory]
    return all(set(must) <= set(body) <= set(may) for body, (must, may) in zip(bodies, box))


def naive_tree(task, slots, tree, box=None):
    """Whether the tree is one for the box, by the words of points 56 and 57."""
    box = box or [((), tuple(range(len(task.atoms)))) for _ in slots]
    musts = [(name, must) for name, (must, _) in zip(slots, box)]
    mays = [(name, may) for name, (_, may) in zip(slots, box)]
    if tree[0] == "split":
        _, slot, atom, first, second = tree
        if not 0 <= slot < len(slots) or atom not in box[slot][1] or atom in box[slot][0]:
            return False
        must, may = box[slot]
        more, less = list(box), list(box)
        more[slot] = (tuple(sorted([*must, atom])), may)
        less[slot] = (must, tuple(one for one in may if one != atom))
        return naive_tree(task, slots, first, more) and naive_tree(task, slots, second, less)
    if tree[0] == "lacks":
        _, example, facts = tree
        return example in task.good and example[1:] not in facts and is_closed(task, musts, example[0], facts)
    if tree[0] == "has":
        _, example, stages = tree
        held = example in task.bad and accepts_stages(task, mays, example[0], stages)
        return held and any(step[0] == example[1:] for step in stages)
    if len(tree[1]) != len(task.worlds) or len(tree[2]) != len(task.worlds):
        return False
    for number, (closed, stages) in enumerate(zip(tree[1], tree[2])):
        if not is_closed(task, musts, number, closed) or not accepts_stages(task, mays, number, stages):
            return False
        if any(one[1:] in closed for one in task.bad if one[0] == number):
            return False
        told = [step[0] for step in stages]
        if any(one[1:] not in told for one in task.good if one[0] == number):
            return False
    return True


def leaves_of(tree):
    """The leaves of a tree, from the first to the last."""
    return leaves_of(tree[3]) + leaves_of(tree[4]) if tree[0] == "split" else [tree]


def naive_word(task, slots, example):
    """What the fitting theories for the slots say of an example, None if there is none."""
    said = {example[1:] in least_set(task, theory, example[0]) for theory in naive_fitting(task, slots)}
    return {(True,): "sure", (False,): "never", (False, True): "open"}.get(tuple(sorted(said)))
