"""Points 25 and 26, and the interface of fewrules/folds.py."""

import random

from fewrules.errors import InvalidTheory
from fewrules.folds import accepts_fold, closure_of, fold_of
from fewrules.tasks import Signature, Task
from fewrules.texts import read_rule, read_task
from fewrules.worlds import World
from tests.support import Case, all_rows

TIES = read_task("known tie 2\nunknown way 2\nnames 3\nrule tie(b,a) if tie(a,b)\nworld x\n")
BARE = read_task("known red 1\nknown tie 2\nunknown goal 1\nunknown way 2\nnames 3 calls\nworld x\n")


def rule(text, task=BARE):
    return read_rule(task, text)


def body(text, task=BARE):
    return read_rule(task, text)[1]


def naive_closure(task, numbers):
    """The closure by the words of point 25."""
    atoms = {task.atoms[number] for number in numbers}
    while True:
        further = set()
        for head, needed in task.background:
            for row in all_rows(range(task.names), 4):
                made = [(name, tuple(row[k] for k in places)) for name, places in [head, *needed]]
                if all(atom in atoms for atom in made[1:]):
                    further.add(made[0])
        if further <= atoms:
            return tuple(sorted(task.atoms.index(atom) for atom in atoms))
        atoms |= further


def naive_folds(task, first, second):
    """All folds, ascending, by the words of point 26."""
    places = dict(task.signature.unknown)[first[0]]
    closure = [task.atoms[number] for number in naive_closure(task, second[1])]
    found = []
    for fold in all_rows(range(task.names), task.names):
        if fold[:places] == tuple(range(places)):
            atoms = [task.atoms[number] for number in first[1]]
            if all((name, tuple(fold[k] for k in row)) in closure for name, row in atoms):
                found.append(fold)
    return found


def random_case(source):
    rules = [
        (("q", (1, 0)), [("q", (0, 1))]),
        (("q", (0, 2)), [("q", (0, 1)), ("q", (1, 2))]),
        (("p", (3,)), [("q", (1, 3)), ("p", (1,))]),
    ]
    background = [one for one in rules if source.random() < 0.4]
    signature = Signature([("p", 1), ("q", 2)], [("f", source.randint(1, 2)), ("g", 1)])
    names, calls = source.randint(2, 3), source.random() < 0.5
    task = Task(signature, background, [World(["x"], [])], names, good=[], bad=[], calls=calls)

    def some_body():
        return tuple(sorted(source.sample(range(len(task.atoms)), source.randint(0, 4))))

    name = source.choice(["f", "g"])
    return task, (name, some_body()), (name, some_body())


class WorkedTest(Case):
    def test_what_the_worked_example_says_of_folds(self):
        first = read_rule(TIES, "way(a,b) if tie(a,c) and tie(c,b)")
        second = read_rule(TIES, "way(a,b) if tie(a,c) and tie(b,c)")
        self.assertEqual((fold_of(TIES, first, second), len(closure_of(TIES, first[1]))), ((0, 1, 2), 4))


class ClosureTest(Case):
    def test_without_background_rules(self):
        for numbers in [(), (0,), (0, 3, 8), (12, 23)]:
            self.assertEqual(closure_of(BARE, numbers), numbers)

    def test_with_background_rules(self):
        self.assertEqual(closure_of(TIES, ()), ())
        self.assertEqual(closure_of(TIES, (0,)), (0,))
        self.assertEqual(closure_of(TIES, (1, 5)), (1, 3, 5, 7))

    def test_a_rule_with_more_names_than_the_task(self):
        text = "known tie 2\nunknown goal 1\nnames 2\nrule tie(a,d) if tie(a,b) and tie(b,c) and tie(c,d)\nworld x\n"
        task = read_task(text)
        self.assertEqual(closure_of(task, (1, 2)), (1, 2))
        self.assertEqual(closure_of(task, (1, 3)), (1, 3))
        self.assertEqual(closure_of(task, (0, 1, 2)), (0, 1, 2, 3))

    def test_atoms_of_unknown_relations_stay(self):
        task = read_task("known tie 2\nunknown way 2\nnames 2 calls\nrule tie(b,a) if tie(a,b)\nworld x\n")
        self.assertEqual(closure_of(task, (1, 5)), (1, 2, 5))

    def test_bodies_that_are_none(self):
        for numbers in [(9,), (-1,), (1, 0), (1, 1), (0, 100)]:
            self.invalid(InvalidTheory, "body", closure_of, TIES, numbers)

    def test_all_cases(self):
        source = random.Random(10)
        for _ in range(120):
            task, first, _ = random_case(source)
            found = closure_of(task, first[1])
            self.assertEqual(found, naive_closure(task, first[1]))
            self.assertEqual(closure_of(task, found), found)


class FoldTest(Case):
    def test_the_least_of_several(self):
        first = rule("goal(a) if tie(a,b)")
        self.assertEqual(fold_of(BARE, first, rule("goal(a) if tie(a,b) and tie(a,c)")), (0, 1, 0))
        self.assertEqual(fold_of(BARE, first, rule("goal(a) if tie(a,c)")), (0, 2, 0))
        self.assertEqual(fold_of(BARE, first, rule("goal(a) if tie(a,a) and tie(a,c)")), (0, 0, 0))
        second = rule("goal(a) if tie(c,a) and tie(b,c)")
        self.assertEqual(fold_of(BARE, rule("goal(a) if tie(b,c)"), second), (0, 1, 2))

    def test_no_fold(self):
        first = rule("goal(a) if tie(a,b) and tie(b,a)")
        self.assertIsNone(fold_of(BARE, first, rule("goal(a) if tie(a,b) and tie(b,c)")))
        self.assertIsNone(fold_of(BARE, first, rule("goal(a)")))
        self.assertEqual(fold_of(BARE, rule("goal(a)"), first), (0, 0, 0))

    def test_the_names_of_the_head_stay(self):
        self.assertIsNone(fold_of(BARE, rule("way(a,b) if tie(a,b)"), rule("way(a,b) if tie(b,a)")))
        self.assertIsNone(fold_of(BARE, rule("goal(a) if red(a)"), rule("goal(a) if red(b)")))
        self.assertEqual(fold_of(BARE, rule("way(a,b) if tie(a,c)"), rule("way(a,b) if tie(a,b)")), (0, 1, 1))

    def test_the_closure_of_the_second_body_is_taken(self):
        first, second = rule("way(a,b) if tie(a,b)", TIES), rule("way(a,b) if tie(b,a)", TIES)
        self.assertEqual(fold_of(TIES, first, second), (0, 1, 0))
        self.assertEqual(fold_of(TIES, second, first), (0, 1, 0))

    def test_atoms_of_unknown_relations(self):
        first, second = rule("goal(a) if way(a,b) and goal(b)"), rule("goal(a) if way(a,c) and goal(c) and red(c)")
        self.assertEqual(fold_of(BARE, first, second), (0, 2, 0))
        self.assertIsNone(fold_of(BARE, second, first))

    def test_four_names_and_three_places(self):
        task = read_task("known red 1\nunknown big 3\nnames 4\nworld x\n")
        self.assertEqual(fold_of(task, ("big", (3,)), ("big", (1,))), (0, 1, 2, 1))
        self.assertIsNone(fold_of(task, ("big", (1,)), ("big", (3,))))

    def test_all_cases(self):
        source = random.Random(11)
        for _ in range(120):
            task, first, second = random_case(source)
            folds = naive_folds(task, first, second)
            self.assertEqual(fold_of(task, first, second), folds[0] if folds else None)
            for fold in all_rows(range(-1, task.names + 1), task.names):
                self.assertIs(accepts_fold(task, first, second, fold), fold in folds)


class AcceptsTest(Case):
    def test_folds(self):
        first, second = rule("goal(a) if tie(a,b)"), rule("goal(a) if tie(a,b) and tie(a,c)")
        for fold in [(0, 1, 0), (0, 1, 1), (0, 1, 2), (0, 2, 0), (0, 2, 2)]:
            self.assertIs(accepts_fold(BARE, first, second, fold), True)
        for fold in [(0, 0, 0), (1, 1, 0), (1, 2, 0)]:
            self.assertIs(accepts_fold(BARE, first, second, fold), False)

    def test_tuples_of_any_lengths_and_numbers(self):
        first, second = rule("goal(a)"), rule("goal(a) if red(a)")
        for fold in [(0, 0, 0), (0, 2, 1)]:
            self.assertIs(accepts_fold(BARE, first, second, fold), True)
        for fold in [(), (0,), (0, 0), (0, 0, 0, 0), (0, 0, 3), (0, -1, 0), (0, 0, -3), (0, 10**30, 0), (1, 0, 0),
                     (-3, 0, 0), (0,) * 50]:
            self.assertIs(accepts_fold(BARE, first, second, fold), False)


class ErrorTest(Case):
    FINE = ("way", (0,))

    def wrong(self, reason, first, second):
        self.invalid(InvalidTheory, reason, fold_of, BARE, first, second)
        self.invalid(InvalidTheory, reason, accepts_fold, BARE, first, second, (0, 1, 2))
        self.invalid(InvalidTheory, reason, accepts_fold, BARE, first, second, ())

    def test_rules_that_are_none_of_the_task(self):
        for name in ["none", "tie", ""]:
            self.wrong("unknown", (name, ()), self.FINE)
            self.wrong("unknown", self.FINE, (name, ()))
        for numbers in [(24,), (-1,), (1, 0), (2, 2)]:
            self.wrong("body", ("way", numbers), self.FINE)
            self.wrong("body", self.FINE, ("way", numbers))

    def test_rules_of_different_relations(self):
        self.wrong("relations", ("goal", ()), self.FINE)
        self.wrong("relations", self.FINE, ("goal", ()))

    def test_which_comes_first(self):
        self.wrong("unknown", ("none", (-1,)), ("way", (-1,)))
        self.wrong("body", ("way", (-1,)), ("none", ()))
        self.wrong("body", ("goal", (-1,)), self.FINE)
        self.wrong("unknown", self.FINE, ("none", (-1,)))
        self.wrong("body", ("goal", ()), ("way", (-1,)))
