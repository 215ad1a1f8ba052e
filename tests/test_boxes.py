"""Points 53 to 57, and the interface of fewrules/boxes.py."""

import copy
import random

from fewrules.boxes import accepts_refutation, accepts_tree, boxes_of, chart, search
from fewrules.calls import least_set, theory_fits
from fewrules.errors import InvalidTheory
from fewrules.tasks import Signature, Task
from fewrules.texts import read_task
from fewrules.worlds import World
from tests.slots_support import (
    PARITY_TEXT, REDS, WAYS, WAYS_THEORY, in_box, leaves_of, naive_fitting, naive_tree, small_task, with_lists,
)
from tests.support import Case, all_rows

ANN, BOB, EVE = ("goal", ("ann",)), ("goal", ("bob",)), ("goal", ("eve",))
# The tree of REDS for one slot goal: goal(a) must stay out of the body, red(a) must be in it.
LACKS = ("lacks", (0, "goal", ("ann",)), [])
ALL = ("all", [[ANN], []], [[(ANN, 0, ("ann",))], []])
HAS = ("has", (0, "goal", ("bob",)), [(BOB, 0, ("bob",))])
INNER = ("split", 0, 0, ALL, HAS)
TREE = ("split", 0, 1, LACKS, INNER)


class WorkedTest(Case):
    def test_the_worked_example(self):
        self.assertEqual((len(least_set(WAYS, WAYS_THEORY, 0)), theory_fits(WAYS, WAYS_THEORY)), (6, True))
        self.assertEqual(search(WAYS, ["way", "way"])[0], "theory")
        kind, tree = search(WAYS, ["way"])
        self.assertEqual((kind, accepts_refutation(WAYS, ["way"], tree)), ("none", True))


class SlotsTest(Case):
    def calls(self, task, slots):
        for call, rest in [(search, ()), (chart, ()), (accepts_tree, (LACKS,)), (accepts_refutation, (LACKS,)),
                           (boxes_of, (LACKS,))]:
            yield call, task, slots, *rest

    def test_too_many_slots(self):
        for slots in (["goal"] * 5, ["none"] * 5, ["goal"] * 9):
            for told in self.calls(REDS, slots):
                self.large("slots", *told)

    def test_names_of_no_unknown_relation(self):
        for slots in (["none"], ["red"], [""], ["goal", "red"], ["goal", "goal", "goal", "eve"]):
            for told in self.calls(REDS, slots):
                self.invalid(InvalidTheory, "unknown", *told)

    def test_no_slots(self):
        empty = with_lists(REDS, [], REDS.bad)
        self.assertEqual(search(empty, []), ("theory", []))
        kind, tree = search(REDS, [])
        self.assertEqual((kind, tree), ("none", LACKS))
        self.assertIs(accepts_refutation(REDS, [], tree), True)
        told = chart(empty, [])
        self.assertEqual((told, boxes_of(empty, [], told)), (("all", [[], []], [[], []]), [[]]))
        self.assertIs(accepts_tree(empty, [], told), True)
        self.assertEqual(boxes_of(REDS, [], chart(REDS, [])), [])

    def test_four_slots_and_the_same_name_twice(self):
        kind, found = search(WAYS, ["way"] * 4)
        self.assertEqual((kind, [name for name, _ in found], theory_fits(WAYS, found)), ("theory", ["way"] * 4, True))
        kind, found = search(REDS, ["goal"] * 4)
        self.assertEqual((kind, theory_fits(REDS, found), len(found)), ("theory", True, 4))

    def test_the_list_of_slots_stays(self):
        slots = ["goal", "goal"]
        told = chart(REDS, slots)
        search(REDS, slots)
        accepts_tree(REDS, slots, told)
        self.assertEqual(slots, ["goal", "goal"])


class LeafTest(Case):
    def accepted(self, tree, task=REDS, slots=("goal",)):
        found = accepts_tree(task, list(slots), tree)
        self.assertIs(found, naive_tree(task, list(slots), tree))
        self.assertIs(accepts_refutation(task, list(slots), tree), found and "all" not in str(tree))
        return found

    def inner(self, leaf):
        """A tree with this leaf where red(a) is in the body and goal(a) is not."""
        return self.accepted(("split", 0, 1, LACKS, ("split", 0, 0, leaf, HAS)))

    def test_a_tree(self):
        self.assertIs(self.accepted(TREE), True)
        self.assertEqual(boxes_of(REDS, ["goal"], TREE), [[((0,), (0,))]])

    def test_lacks(self):
        def first(leaf):
            return self.accepted(("split", 0, 1, leaf, INNER))

        self.assertIs(first(("lacks", (0, "goal", ("ann",)), [BOB])), True)
        for facts in ([ANN], [BOB, BOB], [BOB, ANN], [EVE], [("goal", ("eve", "bob"))], [("goal", ())],
                      [("red", ("bob",))], [("none", ("bob",))], [("", ("bob",))], [("goal", ("x",))]):
            self.assertIs(first(("lacks", (0, "goal", ("ann",)), facts)), False, facts)
        for example in ((0, "goal", ("bob",)), (1, "goal", ("eve",)), (2, "goal", ("ann",)), (-1, "goal", ("ann",)),
                        (0, "red", ("ann",)), (0, "goal", ()), (0, "goal", ("x",)), (0, "", ())):
            self.assertIs(first(("lacks", example, [])), False, example)
        # Without goal(a) in the body the facts are not closed: ann is red.
        self.assertIs(self.accepted(("split", 0, 0, ("lacks", (0, "goal", ("ann",)), []), HAS)), False)

    def test_has(self):
        def second(leaf):
            return self.accepted(("split", 0, 1, LACKS, ("split", 0, 0, ALL, leaf)))

        both = [(ANN, 0, ("ann",)), (BOB, 0, ("bob",))]
        self.assertIs(second(("has", (0, "goal", ("bob",)), both)), True)
        for stages in ([], both[:1], both + both[:1], [(BOB, 1, ("bob",))], [(BOB, -1, ("bob",))],
                       [(BOB, 0, ("ann",))], [(BOB, 0, ())], [(BOB, 0, ("bob", "bob"))], [(BOB, 0, ("x",))],
                       [(EVE, 0, ("eve",))], [(("red", ("bob",)), 0, ("bob",))], [(("none", ("bob",)), 0, ("bob",))],
                       [(("goal", ("bob", "bob")), 0, ("bob",))], [(("goal", ()), 0, ("bob",))]):
            self.assertIs(second(("has", (0, "goal", ("bob",)), stages)), False, stages)
        for example in ((0, "goal", ("ann",)), (1, "goal", ("eve",)), (5, "goal", ("bob",)), (0, "none", ("bob",))):
            self.assertIs(second(("has", example, both)), False, example)
        # With red(a) in the body bob is not given.
        self.assertIs(self.inner(HAS), False)

    def test_has_by_facts_of_earlier_stages(self):
        steps = [(("way", row), number, filling) for row, number, filling in [
            (("a", "b"), 0, ("a", "b", "a")), (("b", "c"), 0, ("b", "c", "a")), (("a", "c"), 1, ("a", "c", "b"))]]
        task = with_lists(WAYS, [], [(0, "way", ("a", "c"))])
        rest = [at for at in range(18) if at != 1], [at for at in range(18) if at not in (2, 16)]

        def below(stages):
            """All atoms but those of the rules of WAYS_THEORY are left out; with any other atom there is no leaf."""
            tree = ("has", (0, "way", ("a", "c")), stages)
            for slot, atoms in enumerate(rest):
                for atom in atoms:
                    tree = ("split", slot, atom, ("lacks", (0, "way", ("a", "b")), []), tree)
            return tree

        for stages, fine in [(steps, True), (steps[1:], True), ([steps[0], steps[2], steps[1]], False),
                             (steps[:2], False), (steps + steps[:1], False)]:
            tree, box = below(stages), []
            while tree[0] == "split":
                box.append(tree[1:3])
                tree = tree[4]
            mays = [((), tuple(at for at in range(18) if (slot, at) not in box)) for slot in range(2)]
            self.assertIs(naive_tree(task, ["way", "way"], tree, mays), fine)
        self.assertIs(accepts_tree(task, ["way", "way"], below(steps)), False)

    def test_all(self):
        self.assertIs(self.inner(("all", [[ANN], [EVE]], [[(ANN, 0, ("ann",))], []])), True)
        for closed in ([], [[ANN]], [[ANN], [], []], [[], []], [[ANN, ANN], []], [[ANN, BOB], []], [[BOB], []],
                       [[ANN], [BOB]], [[ANN], [("goal", ())]], [[("red", ("ann",)), ANN], []]):
            self.assertIs(self.inner(("all", closed, ALL[2])), False, closed)
        for stages in ([], [ALL[2][0]], [ALL[2][0], [], []], [[], []], [[], ALL[2][0]], [ALL[2][0] * 2, []],
                       [ALL[2][0], [(EVE, 0, ("eve",))]], [[(ANN, 2, ("ann",))], []], [[(ANN, 0, ("bob",))], []]):
            self.assertIs(self.inner(("all", ALL[1], stages)), False, stages)
        self.assertIs(self.accepted(ALL), False)

    def test_splits(self):
        for slot in (-1, 1, 2, 99):
            self.assertIs(self.accepted(("split", slot, 1, LACKS, INNER)), False)
        for atom in (-1, 2, 64, 10**20):
            self.assertIs(self.accepted(("split", 0, atom, LACKS, INNER)), False)
        for again in (("split", 0, 1, ("split", 0, 1, LACKS, LACKS), INNER),
                      ("split", 0, 1, LACKS, ("split", 0, 1, INNER, INNER))):
            self.assertIs(self.accepted(again), False)
        self.assertIs(self.accepted(("split", 0, 1, INNER, LACKS)), False)
        self.assertIs(self.accepted(("split", 0, 1, LACKS, ("split", 0, 0, HAS, ALL))), False)

    def test_a_refutation_has_no_leaf_all(self):
        self.assertIs(accepts_tree(REDS, ["goal"], TREE), True)
        self.assertIs(accepts_refutation(REDS, ["goal"], TREE), False)
        task = with_lists(REDS, REDS.good, [(0, "goal", ("bob",)), (1, "goal", ("eve",))])
        self.assertIs(accepts_tree(task, ["goal"], TREE), True)
        task = with_lists(REDS, [(0, "goal", ("bob",))], [(0, "goal", ("ann",))])
        kind, tree = search(task, ["goal"])
        self.assertEqual((kind, accepts_refutation(task, ["goal"], tree)), ("none", True))
        self.assertIs(accepts_refutation(REDS, ["goal"], tree), False)


class SearchTest(Case):
    def look_at(self, task, slots):
        """Search, chart and judge, against plain enumeration; return what was found."""
        fitting = naive_fitting(task, slots)
        kind, told = search(task, slots)
        if fitting:
            self.assertEqual(kind, "theory")
            self.assertIn(told, fitting)
        else:
            self.assertEqual(kind, "none")
            self.assertIs(naive_tree(task, slots, told), True)
            self.assertIs(accepts_refutation(task, slots, told), True)
        tree = chart(task, slots)
        self.assertIs(naive_tree(task, slots, tree), True)
        self.assertIs(accepts_tree(task, slots, tree), True)
        self.assertIs(accepts_refutation(task, slots, tree), not fitting)
        boxes = boxes_of(task, slots, tree)
        self.assertEqual(len(boxes), sum(leaf[0] == "all" for leaf in leaves_of(tree)))
        for theory in fitting:
            self.assertEqual(sum(in_box(task, theory, box) for box in boxes), 1)
        self.assertEqual(len(fitting), sum(2 ** sum(len(may) - len(must) for must, may in box) for box in boxes))
        return kind, tree

    def test_all_small_tasks(self):
        source = random.Random(210)
        kinds = {"theory": 0, "none": 0}
        for at in range(150):
            kinds[self.look_at(*small_task(source, calls=at % 3 != 0))[0]] += 1
        self.assertGreater(min(kinds.values()), 30)

    def test_changed_trees(self):
        source = random.Random(211)
        counts = {True: 0, False: 0}
        for at in range(60):
            task, slots = small_task(source, calls=at % 3 != 0)
            tree = chart(task, slots)
            for _ in range(12):
                changed = self.changed(source, tree)
                found = accepts_tree(task, slots, changed)
                self.assertIs(found, naive_tree(task, slots, changed))
                counts[found] += 1
        self.assertGreater(min(counts.values()), 40)

    def changed(self, source, tree):
        """The tree with one part of it changed."""
        if tree[0] == "split" and source.random() < 0.8:
            side = source.choice([3, 4])
            return (*tree[:side], self.changed(source, tree[side]), *tree[side + 1:])
        if tree[0] == "split":
            return source.choice([(*tree[:3], tree[4], tree[3]), tree[3], ("split", tree[1], tree[2] + 1, *tree[3:])])
        if tree[0] == "all":
            return source.choice([("all", tree[1][::-1], tree[2]), ("all", tree[1], tree[2][::-1]),
                                  ("all", [row[1:] for row in tree[1]], tree[2]),
                                  ("all", [row[::-1] for row in tree[1]], [row[:1] for row in tree[2]]),
                                  ("all", tree[1], [row[1:] for row in tree[2]])])
        return source.choice([(tree[0], tree[1], tree[2][1:]), (tree[0], tree[1], tree[2][::-1]),
                              (tree[0], tree[1], tree[2] * 2), ("has", tree[1], tree[2])])

    def test_boxes_in_the_order_of_the_leaves(self):
        task = with_lists(REDS, [(0, "goal", ("ann",))], [])
        leaf = ("all", [[ANN, BOB], [EVE]], [[(ANN, 0, ("ann",))], []])
        tree = ("split", 0, 1, LACKS, ("split", 0, 0, leaf, leaf))
        self.assertIs(accepts_tree(task, ["goal"], tree), True)
        self.assertEqual(boxes_of(task, ["goal"], tree), [[((0,), (0,))], [((), ())]])

    def test_helper_relations(self):
        task = read_task(PARITY_TEXT)
        slots = ["even", "even", "odd"]
        kind, found = search(task, slots)
        self.assertEqual((kind, [name for name, _ in found], theory_fits(task, found)), ("theory", slots, True))
        for fewer in (["even"], ["odd", "odd"], ["even", "odd"]):
            kind, tree = search(task, fewer)
            self.assertEqual((kind, accepts_refutation(task, fewer, tree)), ("none", True))

    def test_several_relations_without_calls(self):
        text = "known red 1\nknown big 1\nunknown goal 1\nunknown aim 1\nnames 1\nworld a b c d\nfact red(a)\n" \
               "fact big(b)\nfact red(c)\nfact big(c)\ngood 0 goal(a)\ngood 0 goal(b)\ngood 0 aim(d)\nbad 0 goal(d)\n"
        task = read_task(text)
        for slots, kind in [(["goal", "goal", "aim"], "theory"), (["goal", "aim", "goal", "goal"], "theory"),
                            (["goal", "aim"], "none"), (["goal", "goal"], "none"), (["aim"] * 4, "none")]:
            word, told = search(task, slots)
            self.assertEqual(word, kind)
            self.assertTrue(theory_fits(task, told) if kind == "theory" else accepts_refutation(task, slots, told))
        task = read_task(text + "bad 0 aim(a)\nbad 0 aim(b)\nbad 0 aim(c)\n")
        self.assertEqual(search(task, ["goal", "goal", "aim"])[0], "none")

    def test_slots_that_are_not_needed(self):
        text = "known red 1\nunknown goal 1\nnames 1{}\nworld a b\nfact red(b)\nbad 0 goal(b)\n"
        for calls in ("", " calls"):
            task = read_task(text.format(calls))
            kind, told = search(task, ["goal"] * 3)
            self.assertEqual(kind, "none" if not calls else "theory")
            if calls:
                self.assertIs(theory_fits(task, told), True)
            else:
                self.assertIs(accepts_refutation(task, ["goal"] * 3, told), True)

    def test_background_rules(self):
        task = read_task("known tie 2\nunknown goal 1\nnames 2\nrule tie(b,a) if tie(a,b)\nworld a b c\nfact tie(a,b)\n"
                         "good 0 goal(a)\ngood 0 goal(b)\nbad 0 goal(c)\n")
        kind, found = search(task, ["goal"])
        self.assertEqual((kind, theory_fits(task, found)), ("theory", True))
        self.look_at(task, ["goal"])

    def test_relations_with_more_places_than_names(self):
        task = read_task("known p 3\nunknown goal 1\nnames 2 calls\nworld a b\nfact p(a,a,b)\nfact p(b,a,b)\n"
                         "good 0 goal(a)\nbad 0 goal(b)\n")
        kind, found = search(task, ["goal"])
        self.assertEqual((kind, theory_fits(task, found)), ("theory", True))

    def test_a_good_example_that_all_bodies_cover_less_than_a_bad_one(self):
        task = read_task("known red 1\nunknown goal 1\nnames 1\nworld a b\nfact red(b)\ngood 0 goal(a)\nbad 0 goal(b)\n")
        for slots in (["goal"], ["goal"] * 2, ["goal"] * 4):
            kind, tree = search(task, slots)
            self.assertEqual((kind, accepts_refutation(task, slots, tree)), ("none", True))

    def test_what_is_returned_is_new(self):
        task = with_lists(REDS, [(0, "goal", ("bob",))], [(0, "goal", ("ann",))])
        for made, again in [(search(task, ["goal", "goal"])[1], lambda: search(task, ["goal", "goal"])[1]),
                            (chart(REDS, ["goal", "goal"]), lambda: chart(REDS, ["goal", "goal"]))]:
            before = copy.deepcopy(made)
            lists = [leaf[at] for leaf in leaves_of(made) for at in (1, 2) if isinstance(leaf[at], list)]
            self.assertEqual(len({id(one) for one in lists}), len(lists))
            for one in lists:
                one.append("x")
            self.assertEqual(again(), before)
        search(REDS, ["goal"])[1].clear()
        self.assertEqual(search(REDS, ["goal"])[1], [("goal", (0,))])

    def test_what_is_passed_stays(self):
        tree = copy.deepcopy(TREE)
        accepts_tree(REDS, ["goal"], tree)
        accepts_refutation(REDS, ["goal"], tree)
        boxes_of(REDS, ["goal"], tree)[0].clear()
        self.assertEqual((tree, boxes_of(REDS, ["goal"], tree)), (TREE, [[((0,), (0,))]]))


def limit_task(source, calls, count=8):
    """A task with 64 atoms, four names and four worlds of six constants, and a theory that its examples follow."""
    known = [("own", 2), ("tie", 2)] if calls else [("own", 2), ("tie", 2), ("see", 2), ("pay", 2)]
    unknown = [("way", 2), ("aim", 2)] if calls else [("way", 2)]
    worlds = []
    for _ in range(4):
        rows = all_rows("abcdef", 2)
        worlds.append(World(list("abcdef"), [(name, row) for name, _ in known for row in rows if source.random() < 0.2]))
    task = Task(Signature(known, unknown), [], worlds, 4, good=[], bad=[], calls=calls)
    theory = [("way", (1,)), ("way", (2, 57) if calls else (18, 39))]
    facts = {(at, *fact) for at in range(4) for fact in least_set(task, theory, at)}
    pool = [(at, "way", row) for at in range(4) for row in all_rows("abcdef", 2)]
    source.shuffle(pool)
    good = [one for one in pool if one in facts][:count]
    return with_lists(task, good, [one for one in pool if one not in facts][:count]), theory


class LimitTest(Case):
    def test_theories(self):
        source = random.Random(212)
        for calls in (True, False):
            task, theory = limit_task(source, calls)
            self.assertEqual((len(task.atoms), theory_fits(task, theory)), (64, True))
            for slots in (["way"] * 2, ["way"] * 4):
                kind, found = search(task, slots)
                self.assertEqual((kind, theory_fits(task, found)), ("theory", True))

    def test_refutations(self):
        source = random.Random(213)
        for calls in (True, False):
            task, _ = limit_task(source, calls)
            task = with_lists(task, task.bad, task.good)
            kind, tree = search(task, ["way"])
            self.assertEqual((kind, accepts_refutation(task, ["way"], tree)), ("none", True))
