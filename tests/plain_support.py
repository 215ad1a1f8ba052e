"""What the tests of plain tasks use: ready tasks, and what the document says of them by plain enumeration."""

from itertools import combinations, product

from fewrules.tasks import Signature, Task
from fewrules.texts import read_rule, read_task
from fewrules.worlds import World
from tests.support import all_rows

KNOWN = [
    [("red", 1), ("tie", 2)],
    [("tie", 2), ("own", 2)],
    [("red", 1), ("big", 1), ("odd", 1)],
    [("p", 1), ("q", 1), ("r", 1), ("s", 1), ("t", 1), ("u", 1)],
]
NOT_PLAIN = [
    read_task("known red 1\nunknown goal 1\nunknown aim 1\nnames 1\nworld ann\n"),
    read_task("known red 1\nunknown goal 1\nnames 1 calls\nworld ann\n"),
]
# Ann has all, bob and cid have each a half of it, dan has nothing.
HALVES = """known red 1
known big 1
unknown goal 1
names 1
world ann bob cid dan
fact red(ann)
fact big(ann)
fact red(bob)
fact big(cid)
"""


def task_of(text, good=(), bad=()):
    """The task of a text with good and bad examples in world 0, told by their constants with spaces between them."""
    pairs = [("good", row) for row in good] + [("bad", row) for row in bad]
    return read_task(text + "".join(f"{word} 0 goal({row.replace(' ', ',')})\n" for word, row in pairs))


def example(row, world=0):
    return (world, "goal", tuple(row.split()))


def body(task, text):
    """The body of the atoms of a text, which have ` and ` between them."""
    places = task.signature.unknown[0][1]
    return read_rule(task, f"goal({','.join('abcd'[:places])}) if {text}")[1] if text else ()


def some_task(source, most=4, counts=None):
    """A small plain task: at most 9 atoms, so that all bodies can be gone through."""
    known = source.choice(KNOWN)
    names = 1 if len(known) == 6 else source.randint(1, 2 if len(known) == 2 else 3)
    places = source.randint(1, min(2, names))
    worlds = [some_world(source, known) for _ in range(source.randint(1, 2))]
    rules = [(("red", (0,)), [("tie", (0, 1)), ("red", (1,))]), (("tie", (1, 0)), [("tie", (0, 1))])]
    fine = rules if known == KNOWN[0] else []
    pool = [(at, "goal", row) for at, world in enumerate(worlds) for row in all_rows(world.constants, places)]
    source.shuffle(pool)
    good, bad = counts or (source.randint(0, most), source.randint(0, most))
    return Task(
        Signature(known, [("goal", places)]),
        [rule for rule in fine if source.random() < 0.3],
        worlds,
        names,
        good=pool[:good],
        bad=pool[good:good + bad],
    )


def unary_task(source, good=6, bad=6):
    """A task of which an example is what its constant has; good ones have much, and bad ones have little."""
    constants = ["ann", "bob", "cid", "dan", "eve", "fay"]
    worlds = []
    for likely in (0.7, source.choice([0.2, 0.4])):
        facts = [(name, (constant,)) for name, _ in KNOWN[3] for constant in constants]
        worlds.append(World(constants, [fact for fact in facts if source.random() < likely]))
    rows = [(constant,) for constant in constants]
    good = [(0, "goal", row) for row in source.sample(rows, source.randint(0, good))]
    bad = [(1, "goal", row) for row in source.sample(rows, source.randint(0, bad))]
    return Task(Signature(KNOWN[3], [("goal", 1)]), [], worlds, 1, good=good, bad=bad)


def some_world(source, known):
    constants = ["ann", "bob", "cid", "dan", "eve"][:source.randint(3, 5)]
    likely = source.choice([0.3, 0.5, 0.7])
    facts = [(name, row) for name, places in known for row in all_rows(constants, places)]
    return World(constants, [fact for fact in facts if source.random() < likely])


def large_task(good=8, bad=8, places=1, shift=1, wide=7, likely=2):
    """A task at the limits: 64 atoms, four worlds of six constants, four names; the facts follow a pattern."""
    constants = ["ann", "bob", "cid", "dan", "eve", "fay"]
    known = [("own", 2), ("tie", 2), ("see", 2), ("pay", 2)]
    worlds = []
    for at in range(4):
        facts = []
        for number, (name, _) in enumerate(known):
            for one, two in all_rows(range(6), 2):
                mixed = one * one * (number + 2) + two * (at + shift) + one * two * (number + at)
                # With facts of one constant alone some set would soon have all atoms.
                if mixed % wide < likely and one != two:
                    facts.append((name, (constants[one], constants[two])))
        worlds.append(World(constants, facts))
    pool = [(at, "goal", row) for row in all_rows(constants, places) for at in range(4)]
    pool = pool[::5] + pool[1::5] + pool[2::5] + pool[3::5] + pool[4::5]
    return Task(Signature(known, [("goal", places)]), [], worlds, 4, good=pool[:good], bad=pool[good:good + bad])


def is_part(first, second):
    return set(first) <= set(second)


def greatest_ones(rows):
    """Ascending and each once, those that are no proper parts of others."""
    kept, found = [], []
    for mask, row in sorted({(sum(2 ** at for at in row), row) for row in rows}, key=lambda pair: -len(pair[1])):
        if not any(mask & other == mask for other in kept):
            kept.append(mask)
            found.append(row)
    return sorted(found)


def least_ones(rows):
    """Ascending and each once, those that have no others as proper parts."""
    return sorted(row for row in set(rows) if not any(set(other) < set(row) for other in rows))


def all_parts(numbers):
    """All ascending tuples of some numbers, small ones first."""
    return [row for size in range(len(numbers) + 1) for row in combinations(numbers, size)]


def all_bodies(task):
    return all_parts(range(len(task.atoms)))


def filling_sets(task, one):
    """All pairs of a filling of an example and its set."""
    number, _, row = one
    world = task.worlds[number]
    closed = set(task.closed[number])
    found = []
    for rest in product(world.constants, repeat=task.names - len(row)):
        filling = row + rest
        made = [(name, tuple(filling[k] for k in names)) for name, names in task.atoms]
        found.append((filling, tuple(at for at, fact in enumerate(made) if fact in closed)))
    return found


def naive_sets(task, one):
    return greatest_ones([row for _, row in filling_sets(task, one)])


def is_covered(task, numbers, one):
    return any(is_part(numbers, row) for row in naive_sets(task, one))


def naive_covered(task, examples):
    """For each body that covers no bad example the numbers of the examples that it covers, by all bodies."""
    good = [naive_sets(task, one) for one in examples]
    bad = [row for one in task.bad for row in naive_sets(task, one)]
    found = {}
    for numbers in all_bodies(task):
        if not any(is_part(numbers, row) for row in bad):
            found[numbers] = tuple(at for at, rows in enumerate(good) if any(is_part(numbers, row) for row in rows))
    return found


def naive_fitting(task, lot=None):
    """All bodies that cover the good examples of the lot (or all) and no bad one."""
    wanted = range(len(task.good)) if lot is None else lot
    return [numbers for numbers, covered in naive_covered(task, task.good).items() if is_part(wanted, covered)]


def naive_hard_lots(task):
    covered = list(naive_covered(task, task.good).values())
    hard = []
    for lot in all_parts(range(len(task.good))):
        if lot and not any(is_part(lot, row) for row in covered) and not any(is_part(other, lot) for other in hard):
            hard.append(lot)
    return hard


def naive_colourings(count, lots, k):
    """All colourings as they are told, in ascending order."""
    found = []
    for colours in product(range(min(k, count)), repeat=count):
        told = all(colour <= max(colours[:at], default=-1) + 1 for at, colour in enumerate(colours))
        if told and all(len({colours[thing] for thing in lot}) > 1 for lot in lots):
            found.append(list(colours))
    return found


def naive_theories_fit(task, k, examples=(), truth=True):
    """Whether some theory of at most k rules fits the task with further examples, good ones or bad ones."""
    covered = naive_covered(task, [*task.good, *examples])
    good = len(task.good)
    wanted = range(good + (len(examples) if truth else 0))
    rows = [row for row in covered.values() if truth or not any(at >= good for at in row)]
    rows = greatest_ones([tuple(at for at in row if at in wanted) for row in rows])
    for size in range(min(k, len(rows)) + 1):
        for chosen in combinations(rows, size):
            if set(wanted) <= {at for row in chosen for at in row}:
                return True
    return False
