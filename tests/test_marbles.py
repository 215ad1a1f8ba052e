"""Points 60 to 62, and the interface of fewrules/marbles.py."""

import random
from itertools import product

from fewrules.errors import UnknownExample
from fewrules.marbles import first_kept, is_kept, is_keeping, keeping_list
from fewrules.tasks import Signature, Task
from fewrules.texts import read_task
from fewrules.worlds import World
from tests.support import Case, all_rows

REST = "world ann bob\nfact tie(ann,bob)\ngood 0 goal(ann)\nbad 0 goal(bob)\n"
ONE = read_task("known tie 2\nunknown goal 1\nnames 1\n" + REST)
TWO = read_task("known tie 2\nunknown goal 1\nnames 2\n" + REST)
KNOWN = [[("tie", 2)], [("red", 1), ("tie", 2)], [("red", 1)], [("tri", 3)]]


def naive_list(task, first, second):
    """The greatest keeping list by the words of point 61: all pairs, without those that lack something."""
    left = all_rows(task.worlds[first].constants, task.names)
    right = all_rows(task.worlds[second].constants, task.names)
    there, wanted = set(task.closed[first]), set(task.closed[second])
    known = dict(task.signature.known)
    atoms = [atom for atom in task.atoms if atom[0] in known]

    def fact(atom, placing):
        return (atom[0], tuple(placing[name] for name in atom[1]))

    pairs = {(f, g) for f in left for g in right
             if all(fact(atom, g) in wanted for atom in atoms if fact(atom, f) in there)}
    while True:
        fine = {pair for pair in pairs if not lacks(task, first, second, pairs, pair)}
        if fine == pairs:
            return [(f, g) for f in left for g in right if (f, g) in pairs]
        pairs = fine


def lacks(task, first, second, pairs, pair):
    """Whether some pair that this one asks for is not there."""
    f, g = pair
    for row in product(range(task.names), repeat=task.names):
        if (tuple(f[name] for name in row), tuple(g[name] for name in row)) not in pairs:
            return True
    for at, constant in product(range(task.names), task.worlds[first].constants):
        moved = (*f[:at], constant, *f[at + 1:])
        if not any((moved, (*g[:at], other, *g[at + 1:])) in pairs for other in task.worlds[second].constants):
            return True
    return False


def naive_keeping(task, first, second, told):
    """Whether a list of pairs of placings of the worlds is a keeping list, by the words of point 61."""
    pairs = set(told)
    for f, g in pairs:
        for row, number in [(f, first), (g, second)]:
            if len(row) != task.names or not set(row) <= set(task.worlds[number].constants):
                return False
        there, wanted = set(task.closed[first]), set(task.closed[second])
        for name, names in task.atoms:
            if (name, tuple(f[k] for k in names)) in there and (name, tuple(g[k] for k in names)) not in wanted:
                return False
    return not any(lacks(task, first, second, pairs, pair) for pair in pairs)


def some_task(source, names=None, most=2, calls=None):
    known = source.choice(KNOWN)
    unknown = source.choice([[("goal", 1)], [("goal", 1), ("aim", 1)]])
    names = names or source.randint(1, 3)
    worlds = []
    for _ in range(source.randint(1, 2)):
        constants = ["b", "a", "c"][:source.randint(1, 3 if names < 3 else 2)]
        facts = [(name, row) for name, places in known for row in all_rows(constants, places)]
        likely = source.choice([0.3, 0.6])
        worlds.append(World(constants, [fact for fact in facts if source.random() < likely]))
    rules = [(("tie", (1, 0)), [("tie", (0, 1))])] if ("tie", 2) in known and source.random() < 0.3 else []
    pool = [(at, name, row) for at, world in enumerate(worlds) for name, _ in unknown
            for row in all_rows(world.constants, 1)]
    source.shuffle(pool)
    good, bad = source.randint(0, most), source.randint(0, most)
    calls = source.random() < 0.4 if calls is None else calls
    return Task(Signature(known, unknown), rules, worlds, names, good=pool[:good], bad=pool[good:good + bad],
                calls=calls)


def all_examples(task):
    return [(at, name, row) for at, world in enumerate(task.worlds) for name, places in task.signature.unknown
            for row in all_rows(world.constants, places)]


def with_names(task, names):
    return Task(task.signature, task.background, task.worlds, names, good=task.good, bad=task.bad, calls=task.calls)


def chain_task(names, constants, good=1):
    """A task with one world, a chain, from the beginning of which it is a long way to the end."""
    letters = "abcdef"[:constants]
    facts = [("tie", pair) for pair in zip(letters, letters[1:])]
    ends = [(0, "goal", (letters[0],)), (0, "goal", (letters[-1],))]
    return Task(Signature([("tie", 2)], [("goal", 1)]), [], [World(list(letters), facts)], names, good=ends[:good],
                bad=ends[1:])


class WorkedTest(Case):
    def test_the_worked_example(self):
        self.assertEqual((is_kept(ONE, ONE.good[0], ONE.bad[0]), is_kept(TWO, TWO.good[0], TWO.bad[0])), (True, False))
        self.assertEqual(len(keeping_list(ONE, 0, 0)), 4)
        expected = [(("ann", "ann"), ("ann", "ann")), (("ann", "bob"), ("ann", "bob"))]
        self.assertEqual(keeping_list(TWO, 0, 0)[:2], expected)


class ListTest(Case):
    def test_against_the_words(self):
        source = random.Random(230)
        lengths = []
        for _ in range(60):
            task = some_task(source)
            for first, second in product(range(len(task.worlds)), repeat=2):
                found = keeping_list(task, first, second)
                self.assertEqual(found, naive_list(task, first, second))
                self.assertIs(is_keeping(task, first, second, found), True)
                lengths.append(len(found))
        self.assertGreater(max(lengths), 50)
        self.assertGreater(lengths.count(0), 5)

    def test_four_names(self):
        text = "known tie 2\nunknown goal 1\nnames 4\nworld a b\nfact tie(a,b)\nworld x y\nfact tie(x,y)\nfact tie(y,x)\n"
        task = read_task(text)
        for first, second in product(range(2), repeat=2):
            self.assertEqual(keeping_list(task, first, second), naive_list(task, first, second))
        self.assertEqual(len(keeping_list(task, 1, 0)), 0)
        self.assertEqual(len(keeping_list(task, 0, 1)) > 0, True)

    def test_background_counts(self):
        text = "known tie 2\nunknown goal 1\nnames 2\n{}world a b\nfact tie(a,b)\ngood 0 goal(a)\nbad 0 goal(b)\n"
        self.assertIsNone(first_kept(read_task(text.format(""))))
        task = read_task(text.format("rule tie(b,a) if tie(a,b)\n"))
        self.assertEqual(first_kept(task), (task.good[0], task.bad[0]))

    def test_atoms_of_unknown_relations_do_not_count(self):
        for calls in (True, False):
            task = Task(TWO.signature, [], TWO.worlds, 2, good=TWO.good, bad=TWO.bad, calls=calls)
            self.assertEqual(keeping_list(task, 0, 0), keeping_list(TWO, 0, 0))

    def test_what_is_returned_is_new(self):
        keeping_list(TWO, 0, 0).clear()
        self.assertEqual(len(keeping_list(TWO, 0, 0)), 4)

    def test_too_many_pairs(self):
        for names, constants, fine in [(2, 6, True), (3, 4, True), (3, 5, False), (4, 2, True), (4, 3, False),
                                       (1, 6, True), (4, 6, False)]:
            task = chain_task(names, constants)
            if fine:
                self.assertIs(is_keeping(task, 0, 0, keeping_list(task, 0, 0)), True)
                first_kept(task)
                self.assertIs(is_kept(task, task.good[0], task.good[0]), True)
            else:
                self.large("pairs", keeping_list, task, 0, 0)
                self.large("pairs", first_kept, task)
                self.large("pairs", is_kept, task, task.good[0], task.good[0])
                self.assertIs(is_keeping(task, 0, 0, []), True)

    def test_too_many_pairs_for_two_worlds(self):
        text = "known tie 2\nunknown goal 1\nnames 4\nworld a b c\nworld x y\ngood 1 goal(x)\nbad 1 goal(y)\n"
        task = read_task(text)
        self.large("pairs", keeping_list, task, 0, 0)
        self.assertEqual([len(keeping_list(task, *pair)) for pair in [(0, 1), (1, 0), (1, 1)]], [81 * 16, 81 * 16, 256])
        self.large("pairs", first_kept, task)
        self.assertIs(is_kept(task, task.good[0], task.bad[0]), True)
        self.assertIs(is_kept(task, task.good[0], (0, "goal", ("a",))), True)
        self.large("pairs", is_kept, task, (0, "goal", ("b",)), (0, "goal", ("a",)))
        self.assertEqual(len(keeping_list(read_task(text.replace("names 4", "names 2")), 0, 0)), 81)


class KeepingTest(Case):
    def test_the_empty_list(self):
        for task in (ONE, TWO):
            self.assertIs(is_keeping(task, 0, 0, []), True)

    def test_pairs_left_out_doubled_and_changed(self):
        source = random.Random(231)
        counts = {True: 0, False: 0}
        for _ in range(80):
            task = some_task(source)
            first, second = source.randrange(len(task.worlds)), source.randrange(len(task.worlds))
            told = keeping_list(task, first, second)
            if not told:
                continue
            self.assertIs(is_keeping(task, first, second, told + told[:1]), True)
            self.assertIs(is_keeping(task, first, second, told[::-1]), True)
            for _ in range(4):
                at = source.randrange(len(told))
                left = source.choice(all_rows(task.worlds[first].constants, task.names))
                right = source.choice(all_rows(task.worlds[second].constants, task.names))
                for changed in (told[:at] + told[at + 1:], told[:at] + [(left, right)] + told[at + 1:],
                                told + [(left, right)], [(left, right)]):
                    found = is_keeping(task, first, second, changed)
                    self.assertIs(found, naive_keeping(task, first, second, changed))
                    counts[found] += 1
        self.assertGreater(min(counts.values()), 20)

    def test_pairs_of_other_tuples(self):
        told = keeping_list(TWO, 0, 0)
        for pair in [((), ()), (("ann",), ("ann",)), (("ann", "ann", "ann"), ("ann", "ann", "ann")),
                     (("x", "y"), ("ann", "bob")), (("ann", "bob"), ("ann", "")), (("ann", "ann"), ()),
                     (("ann", "bob"), ("bob", "ann"))]:
            self.assertIs(is_keeping(TWO, 0, 0, told + [pair]), False)
            self.assertIs(is_keeping(TWO, 0, 0, [pair]), False)

    def test_a_smaller_list(self):
        task = read_task("known red 1\nunknown goal 1\nnames 1\nworld a b\n")
        for told, fine in [([(("a",), ("a",)), (("b",), ("b",))], True), ([(("a",), ("a",))], False),
                           ([(("a",), ("b",)), (("b",), ("b",))], True), ([(("a",), ("b",)), (("b",), ("a",))], True)]:
            self.assertIs(is_keeping(task, 0, 0, told), fine)

    def test_the_list_stays(self):
        told = keeping_list(TWO, 0, 0)
        is_keeping(TWO, 0, 0, told)
        self.assertEqual(told, keeping_list(TWO, 0, 0))


class KeptTest(Case):
    def test_facts_of_the_document(self):
        source = random.Random(232)
        kept = 0
        for _ in range(40):
            task = some_task(source, names=source.choice([1, 2, 2, 3]))
            pool = all_examples(task)
            onto = {(one, other): is_kept(task, one, other) for one in pool for other in pool}
            for one in pool:
                self.assertIs(onto[one, one], True)
            for one, other, third in product(pool, repeat=3):
                if onto[one, other] and onto[other, third]:
                    self.assertIs(onto[one, third], True)
            for (one, other), found in onto.items():
                if one[1] != other[1]:
                    self.assertIs(found, False)
                elif task.names > 1 and found:
                    self.assertIs(is_kept(with_names(task, task.names - 1), one, other), True)
                kept += found and one != other
        self.assertGreater(kept, 50)

    def test_maps_of_constants(self):
        source = random.Random(233)
        found = 0
        for _ in range(40):
            task = some_task(source, names=2)
            for one, other in product(all_examples(task), repeat=2):
                first, second = task.worlds[one[0]].constants, task.worlds[other[0]].constants
                for images in product(second, repeat=len(first)):
                    to = dict(zip(first, images))
                    moved = {(name, tuple(to[c] for c in row)) for name, row in task.closed[one[0]]}
                    if one[1] == other[1] and (to[one[2][0]],) == other[2] and moved <= set(task.closed[other[0]]):
                        self.assertIs(is_kept(task, one, other), True)
                        found += one != other
        self.assertGreater(found, 30)

    def test_along_a_chain(self):
        ends = [(0, "goal", ("a",)), (0, "goal", ("b",)), (0, "goal", ("c",))]
        for names, expected in [(1, [True] * 3), (2, [False] * 3), (3, [False] * 3)]:
            task = chain_task(names, 3)
            self.assertEqual([is_kept(task, ends[0], ends[1]), is_kept(task, ends[1], ends[2]),
                              is_kept(task, ends[2], ends[0])], expected)
        task = read_task("known tie 2\nunknown goal 1\nnames 2\nworld a b c\nfact tie(a,b)\nfact tie(b,c)\nworld x\n"
                         "fact tie(x,x)\n")
        self.assertEqual([is_kept(task, one, (1, "goal", ("x",))) for one in ends], [True] * 3)
        self.assertIs(is_kept(task, (1, "goal", ("x",)), ends[0]), False)

    def test_different_relations(self):
        task = read_task("known red 1\nunknown goal 1\nunknown aim 1\nnames 4\nworld a b c\n")
        self.assertIs(is_kept(task, (0, "goal", ("a",)), (0, "aim", ("a",))), False)
        self.large("pairs", is_kept, task, (0, "goal", ("a",)), (0, "goal", ("a",)))

    def test_unknown_examples(self):
        fine = (0, "goal", ("ann",))
        wrong = [(1, "goal", ("ann",)), (-1, "goal", ("ann",)), (0, "tie", ("ann", "bob")), (0, "goal", ()),
                 (0, "goal", ("x",)), (0, "none", ("ann",)), (0, "goal", ("ann", "ann"))]
        for one in wrong:
            self.raises(UnknownExample, {"example": one}, is_kept, TWO, one, fine)
            self.raises(UnknownExample, {"example": one}, is_kept, TWO, fine, one)
            for other in wrong:
                self.raises(UnknownExample, {"example": one}, is_kept, TWO, one, other)
        task = chain_task(4, 6)
        self.raises(UnknownExample, {"example": wrong[0]}, is_kept, task, task.good[0], wrong[0])


class FirstTest(Case):
    def test_the_first_pair(self):
        source = random.Random(234)
        nones = 0
        for _ in range(60):
            task = some_task(source, most=3)
            pairs = [(good, bad) for good in task.good for bad in task.bad if is_kept(task, good, bad)]
            self.assertEqual(first_kept(task), pairs[0] if pairs else None)
            nones += not pairs
        self.assertTrue(10 < nones < 56, nones)
        self.assertEqual(first_kept(ONE), (ONE.good[0], ONE.bad[0]))
        self.assertIsNone(first_kept(TWO))

    def test_at_the_limits(self):
        known = [("own", 2), ("tie", 2), ("see", 2), ("red", 1)]
        source = random.Random(235)
        for names, constants in [(3, 4), (2, 6), (4, 2)]:
            letters = list("abcdef"[:constants])
            worlds = []
            for _ in range(4):
                facts = [(name, row) for name, places in known for row in all_rows(letters, places)]
                worlds.append(World(letters, [fact for fact in facts if source.random() < 0.3]))
            pool = [(at, "goal", (letter,)) for at in range(4) for letter in letters]
            source.shuffle(pool)
            half = min(8, len(pool) // 2)
            task = Task(Signature(known, [("goal", 1)]), [], worlds, names, good=pool[:half], bad=pool[half:2 * half])
            found = first_kept(task)
            for pair in product(task.good, task.bad):
                self.assertIs(is_kept(task, *pair), found == pair or is_kept(task, *pair))
                if pair == found:
                    break
                self.assertIs(is_kept(task, *pair), False)
