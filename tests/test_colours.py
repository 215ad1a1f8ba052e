"""Points 39 to 41, and the interface of fewrules/colours.py."""

import random

from fewrules.colours import colour_tree, greatest_crowd, judge_colours, least_colouring
from tests.plain_support import all_parts, naive_colourings
from tests.support import Case

TRIANGLE = [(0, 1), (1, 2), (0, 2)]


def naive_tree(count, lots, k, colours=()):
    """The tree by the words of point 40 and the interface; there is no colouring."""
    for number, lot in enumerate(lots):
        if lot[-1] < len(colours) and len({colours[thing] for thing in lot}) == 1:
            return ("lot", number)
    used = max(colours, default=-1) + 1
    return ("give", [naive_tree(count, lots, k, (*colours, colour)) for colour in range(min(used + 1, k))])


def naive_judge(count, lots, k, tree, colours=()):
    word, told = tree
    if word == "lot":
        if not 0 <= told < len(lots):
            return False
        return lots[told][-1] < len(colours) and len({colours[thing] for thing in lots[told]}) == 1
    used = max(colours, default=-1) + 1
    if len(colours) >= count or len(told) != min(used + 1, k):
        return False
    return all(naive_judge(count, lots, k, below, (*colours, at)) for at, below in enumerate(told))


def naive_crowd(count, lots):
    near = {(first, second) for first in range(count) for second in range(count)
            if first < second and ((first, second) in lots or (first,) in lots or (second,) in lots)}
    crowds = [part for part in all_parts(range(count))
              if all((one, other) in near for one in part for other in part if one < other)]
    most = max(len(part) for part in crowds)
    return min(part for part in crowds if len(part) == most)


def some_lots(source, count, most=6):
    sizes = [1] if count == 1 else [1, 2, 2, 2, 2, 3, 3] if source.random() < 0.3 else [2, 2, 3]
    rows = [tuple(sorted(source.sample(range(count), min(count, source.choice(sizes)))))
            for _ in range(source.randint(0, most))] if count else []
    return rows


def changed(source, tree):
    """The tree with something exchanged, somewhere."""
    word, told = tree
    if word == "lot" or not told or source.random() < 0.2:
        return source.choice([("lot", source.randint(-1, 4)), ("give", []), ("give", [tree]), ("give", [tree, tree]),
                              ("give", [("lot", 0)])])
    change = source.random()
    at = source.randrange(len(told))
    if change < 0.15:
        return (word, told[:at] + told[at + 1:])
    if change < 0.3:
        return (word, [*told, told[at]])
    return (word, told[:at] + [changed(source, told[at])] + told[at + 1:])


class WorkedTest(Case):
    def test_the_worked_example(self):
        self.assertEqual(least_colouring(3, [(0, 1), (1, 2)], 2), [0, 1, 0])
        self.assertIsNone(least_colouring(3, TRIANGLE[:2] + [(0, 2)], 2))
        self.assertEqual(greatest_crowd(3, TRIANGLE), (0, 1, 2))
        self.assertEqual(colour_tree(2, [(0, 1)], 1), ("give", [("give", [("lot", 0)])]))


class LeastColouringTest(Case):
    def test_no_things(self):
        for k in range(3):
            self.assertEqual(least_colouring(0, [], k), [])

    def test_no_colours(self):
        self.assertIsNone(least_colouring(1, [], 0))
        self.assertIsNone(least_colouring(3, [(0, 1)], 0))

    def test_no_lots(self):
        self.assertEqual(least_colouring(4, [], 1), [0, 0, 0, 0])
        self.assertEqual(least_colouring(4, [], 9), [0, 0, 0, 0])

    def test_lots_of_one_thing(self):
        for k in range(4):
            self.assertIsNone(least_colouring(2, [(1,)], k))

    def test_lots_of_several(self):
        self.assertEqual(least_colouring(3, [(0, 1, 2)], 2), [0, 0, 1])
        self.assertIsNone(least_colouring(3, [(0, 1, 2)], 1))
        self.assertEqual(least_colouring(3, TRIANGLE, 3), [0, 1, 2])
        self.assertEqual(least_colouring(4, [(0, 1), (0, 2), (0, 3)], 2), [0, 1, 1, 1])

    def test_a_colour_that_has_to_be_taken_back(self):
        self.assertEqual(least_colouring(4, [(0, 2), (1, 3), (2, 3)], 2), [0, 1, 1, 0])

    def test_many_things_and_colours(self):
        pairs = [(at, at + 1) for at in range(599)]
        self.assertEqual(least_colouring(600, pairs, 2), [0, 1] * 300)
        self.assertIsNone(least_colouring(600, pairs, 1))
        self.assertEqual(least_colouring(3, TRIANGLE, 10**20), [0, 1, 2])

    def test_random_cases(self):
        source = random.Random(80)
        for _ in range(400):
            count, k = source.randint(0, 6), source.randint(0, 4)
            lots = some_lots(source, count)
            before = list(lots)
            colourings = naive_colourings(count, lots, k)
            self.assertEqual(least_colouring(count, lots, k), colourings[0] if colourings else None)
            self.assertEqual(lots, before)


class TreeTest(Case):
    def test_where_there_is_a_colouring(self):
        for count, lots, k in [(0, [], 0), (0, [], 3), (1, [], 1), (3, TRIANGLE, 3), (2, [(0, 1)], 2)]:
            self.assertIsNone(colour_tree(count, lots, k))

    def test_no_colours(self):
        for count, lots in [(1, []), (3, TRIANGLE)]:
            self.assertEqual(colour_tree(count, lots, 0), ("give", []))
            self.assertIs(judge_colours(count, lots, 0, ("give", [])), True)

    def test_lots_of_one_thing(self):
        self.assertEqual(colour_tree(1, [(0,)], 3), ("give", [("lot", 0)]))
        self.assertEqual(colour_tree(2, [(1,)], 2), ("give", [("give", [("lot", 0), ("lot", 0)])]))

    def test_the_first_lot_as_early_as_possible(self):
        wanted = ("give", [("give", [("lot", 0)])])
        self.assertEqual(colour_tree(3, [(0, 1), (0, 1, 2), (1,)], 1), wanted)
        self.assertEqual(colour_tree(3, [(0, 1, 2), (1,), (0, 1)], 1), ("give", [("give", [("lot", 1)])]))
        self.assertEqual(colour_tree(3, [(1, 2), (0, 1), (0, 1)], 1), ("give", [("give", [("lot", 1)])]))

    def test_two_colours(self):
        wanted = ("give", [("give", [("lot", 0), ("give", [("lot", 2), ("lot", 1)])])])
        self.assertEqual(colour_tree(3, TRIANGLE, 2), wanted)

    def test_a_deep_tree(self):
        tree = colour_tree(700, [(698, 699)], 1)
        self.assertIs(judge_colours(700, [(698, 699)], 1, tree), True)
        depth = 0
        while tree[0] == "give":
            tree, depth = tree[1][0], depth + 1
        self.assertEqual((tree, depth), (("lot", 0), 700))

    def test_random_cases(self):
        source = random.Random(81)
        found = 0
        for _ in range(400):
            count, k = source.randint(0, 6), source.randint(0, 3)
            lots = some_lots(source, count, 9)
            tree = colour_tree(count, lots, k)
            if naive_colourings(count, lots, k):
                self.assertIsNone(tree)
            else:
                found += 1
                self.assertEqual(tree, naive_tree(count, lots, k))
                self.assertIs(judge_colours(count, lots, k, tree), True)
        self.assertGreater(found, 100)

    def test_the_lists_are_new(self):
        colour_tree(3, TRIANGLE, 2)[1].clear()
        self.assertEqual(len(colour_tree(3, TRIANGLE, 2)[1]), 1)

    def test_eight_things(self):
        lots = [row for row in all_parts(range(8)) if len(row) == 2]
        tree = colour_tree(8, lots, 7)
        self.assertIs(judge_colours(8, lots, 7, tree), True)
        self.assertEqual(least_colouring(8, lots, 8), list(range(8)))


class JudgeTest(Case):
    def judged(self, wanted, tree, count=3, lots=TRIANGLE, k=2):
        self.assertIs(judge_colours(count, lots, k, tree), wanted)

    def test_lots_that_stand_later(self):
        late = ("give", [("give", [("give", [("lot", 0), ("lot", 0)]), ("give", [("lot", 2), ("lot", 1)])])])
        self.judged(True, late)
        self.judged(True, ("give", [("give", [("give", [("lot", 2), ("lot", 0)]), late[1][0][1][1]])]))

    def test_other_lots(self):
        for number in [0, 1, 3, -1, 10**30]:
            self.judged(False, ("give", [("give", [("lot", 0), ("give", [("lot", number), ("lot", 1)])])]))

    def test_a_lot_whose_things_have_no_colours_yet(self):
        self.judged(False, ("lot", 0))
        self.judged(False, ("give", [("lot", 0)]))
        self.judged(False, ("give", [("give", [("lot", 1), ("lot", 0)])]))
        self.judged(False, ("lot", 0), 1, [(0,)], 1)

    def test_too_few_and_too_many_trees(self):
        for tree in [("give", []), ("give", [("give", [])]), ("give", [("give", [("lot", 0)])]),
                     ("give", [("give", [("lot", 0)] * 3)]), ("give", [("give", [("lot", 0)] * 2)] * 2)]:
            self.judged(False, tree)
        fine = ("give", [("give", [("lot", 0), ("give", [("lot", 2), ("lot", 1)])])])
        self.judged(True, fine)
        self.judged(False, ("give", [fine[1][0], fine[1][0]]))
        self.judged(False, fine, k=3)
        self.judged(False, fine, k=1)

    def test_no_things_are_left(self):
        self.judged(False, ("give", []), 0, [], 0)
        self.judged(False, ("give", [("give", [])]), 1, [], 1)
        self.judged(False, ("give", [("give", [("give", [])])]), 2, [], 0)

    def test_no_colours(self):
        self.judged(True, ("give", []), 1, [], 0)
        self.judged(False, ("give", [("lot", 0)]), 1, [(0,)], 0)

    def test_trees_of_random_cases(self):
        source = random.Random(82)
        counts = {True: 0, False: 0}
        for _ in range(1500):
            count, k = source.randint(0, 5), source.randint(0, 3)
            lots = some_lots(source, count, 9)
            tree = colour_tree(count, lots, k) or ("give", [("give", [("lot", 0), ("lot", 1)])])
            for _ in range(source.randint(0, 2)):
                tree = changed(source, tree)
            before = repr(tree)
            wanted = naive_judge(count, lots, k, tree)
            self.judged(wanted, tree, count, lots, k)
            self.assertEqual(repr(tree), before)
            self.assertFalse(wanted and naive_colourings(count, lots, k))
            counts[wanted] += 1
        self.assertGreater(min(counts.values()), 200)


class CrowdTest(Case):
    def test_edges(self):
        self.assertEqual(greatest_crowd(0, []), ())
        self.assertEqual(greatest_crowd(1, []), (0,))
        self.assertEqual(greatest_crowd(3, []), (0,))
        self.assertEqual(greatest_crowd(3, [(0, 1, 2)]), (0,))

    def test_lots_of_one_thing(self):
        self.assertEqual(greatest_crowd(1, [(0,)]), (0,))
        self.assertEqual(greatest_crowd(3, [(1,)]), (0, 1))
        self.assertEqual(greatest_crowd(4, [(2,), (0, 3)]), (0, 2, 3))
        self.assertEqual(greatest_crowd(4, [(2,), (3,)]), (0, 2, 3))
        self.assertEqual(greatest_crowd(4, [(0,), (1,), (2,), (3,)]), (0, 1, 2, 3))

    def test_the_first_of_several(self):
        self.assertEqual(greatest_crowd(4, [(2, 3), (0, 1)]), (0, 1))
        self.assertEqual(greatest_crowd(5, [(0, 4), (1, 2), (2, 3), (1, 3), (2, 4), (3, 4)]), (1, 2, 3))

    def test_random_cases(self):
        source = random.Random(83)
        for _ in range(300):
            count = source.randint(0, 7)
            lots = some_lots(source, count, 12)
            found = greatest_crowd(count, lots)
            self.assertEqual(found, naive_crowd(count, lots))
            for k in range(len(found)):
                self.assertIsNone(least_colouring(count, lots, k))

    def test_many_things(self):
        lots = [(first, second) for first in range(40) for second in range(first + 1, 40) if (first + second) % 3]
        found = greatest_crowd(40, lots)
        self.assertEqual(found, (0, 1, 4, 7, 10, 13, 16, 19, 22, 25, 28, 31, 34, 37))
