"""Points 45 to 47, and the interface of fewrules/says.py."""

import random

from fewrules.errors import InvalidTask, NoTheory, UnknownExample
from fewrules.tasks import Signature, Task
from fewrules.texts import read_task
from fewrules.says import candidates, open_examples, says, with_example, witnesses
from fewrules.theories import judge_theory, least_k, theory
from fewrules.worlds import World
from tests.plain_support import (
    HALVES, NOT_PLAIN, example, is_covered, large_task, naive_theories_fit, some_task, task_of, unary_task,
)
from tests.support import Case, all_rows

REDS = "known red 1\nunknown goal 1\nnames 1\nworld ann bob cid\nfact red(ann)\nfact red(bob)\n"
UNKNOWN = [(1, "goal", ("ann",)), (-1, "goal", ("ann",)), (0, "red", ("ann",)), (0, "none", ("ann",)), (0, "goal", ()),
           (0, "goal", ("ann", "bob")), (0, "goal", ("eve",)), (0, "", ("ann",)), (10**30, "goal", ("ann",))]


def with_lists(task, good, bad):
    return Task(task.signature, task.background, task.worlds, task.names, good=good, bad=bad)


def as_told(task):
    """All that makes up a task."""
    worlds = [(world.constants, world.facts) for world in task.worlds]
    signature = (task.signature.known, task.signature.unknown)
    return (signature, task.background, worlds, task.names, task.good, task.bad, task.calls, task.closed, task.atoms)


def naive_says(task, k, one):
    if one in task.good:
        return "sure"
    if one in task.bad:
        return "never"
    if not naive_theories_fit(task, k, [one], False):
        return "sure"
    return "open" if naive_theories_fit(task, k, [one], True) else "never"


def full_task(good, bad):
    """A task with so many good examples, which all have a fact, and bad ones, which have none, and some left."""
    constants = ["a", "b", "c", "d", "e", "f"]
    worlds = [World(constants, [("red", (constant,)) for constant in constants[:3]]) for _ in range(4)]
    red = [(at, "goal", (constant,)) for at in range(4) for constant in constants[:3]]
    rest = [(at, "goal", (constant,)) for at in range(4) for constant in constants[3:]]
    return Task(Signature([("red", 1)], [("goal", 1)]), [], worlds, 1, good=red[:good], bad=rest[:bad])


class WorkedTest(Case):
    def test_the_worked_example(self):
        text = REDS.replace("goal", "good") + "good 0 good(ann)\n"
        task = read_task(text)
        self.assertEqual([says(task, 1, (0, "good", (name,))) for name in ["bob", "cid"]], ["sure", "open"])


class WithExampleTest(Case):
    def test_behind_the_others(self):
        task = task_of(HALVES, ["ann", "bob"], ["dan"])
        for truth in (True, False):
            made = with_example(task, example("cid"), truth)
            good = [*task.good, example("cid")] if truth else task.good
            bad = task.bad if truth else [*task.bad, example("cid")]
            self.assertEqual(as_told(made), as_told(with_lists(task, good, bad)))
        self.assertEqual((len(task.good), len(task.bad)), (2, 1))

    def test_background_rules_and_worlds(self):
        source = random.Random(100)
        for _ in range(30):
            task = some_task(source)
            for one in candidates(task)[:3]:
                made = with_example(task, one, True)
                self.assertEqual(as_told(made), as_told(with_lists(task, [*task.good, one], task.bad)))

    def test_the_lists_are_new(self):
        task = task_of(HALVES, ["ann"], ["dan"])
        for truth in (True, False):
            made = with_example(task, example("cid"), truth)
            made.good.clear()
            made.bad.clear()
            made.worlds[0].facts.clear()
            made.closed[0].clear()
        self.assertEqual(as_told(task), as_told(task_of(HALVES, ["ann"], ["dan"])))

    def test_unknown_examples(self):
        task = task_of(HALVES, ["ann"], ["dan"])
        for one in UNKNOWN:
            for truth in (True, False):
                self.raises(UnknownExample, {"example": one}, with_example, task, one, truth)

    def test_the_errors_of_the_construction(self):
        task = task_of(HALVES, ["ann"], ["dan"])
        for row in ["ann", "dan"]:
            for truth in (True, False):
                self.invalid(InvalidTask, "again", with_example, task, example(row), truth)
        task = full_task(8, 7)
        self.large("examples", with_example, task, example("f"), True)
        self.assertEqual(len(with_example(task, example("f", 3), False).bad), 8)
        self.large("examples", with_example, task, task.good[0], True)
        self.invalid(InvalidTask, "again", with_example, task, task.good[0], False)
        self.raises(UnknownExample, {"example": example("x")}, with_example, full_task(8, 8), example("x"), True)

    def test_a_task_that_no_theory_fits(self):
        task = task_of(HALVES, ["bob"], ["ann"])
        self.assertEqual(with_example(task, example("cid"), True).good, [example("bob"), example("cid")])


class SaysTest(Case):
    def test_sure_never_and_open(self):
        task = task_of(HALVES, ["bob"], ["cid"])
        words = [says(task, 1, example(row)) for row in ["ann", "bob", "cid", "dan"]]
        self.assertEqual(words, ["sure", "sure", "never", "never"])
        task = task_of(HALVES, ["ann"], ["dan"])
        words = [says(task, 1, example(row)) for row in ["ann", "bob", "cid", "dan"]]
        self.assertEqual(words, ["sure", "open", "open", "never"])
        self.assertEqual(says(with_example(task, example("bob"), True), 1, example("cid")), "never")
        self.assertEqual(says(with_example(task, example("bob"), True), 2, example("cid")), "open")

    def test_no_rules(self):
        task = task_of(HALVES, [], ["dan"])
        self.assertEqual([says(task, 0, example(row)) for row in ["ann", "dan"]], ["never", "never"])
        self.assertEqual([says(task, 1, example(row)) for row in ["ann", "dan"]], ["open", "never"])

    def test_where_no_rule_can_stand(self):
        task = task_of(HALVES, [], ["ann"])
        for k in (0, 1, 3):
            self.assertEqual([says(task, k, example(row)) for row in ["ann", "bob", "dan"]], ["never"] * 3)

    def test_random_cases(self):
        source = random.Random(101)
        counts = {"sure": 0, "never": 0, "open": 0}
        for at in range(120):
            task = some_task(source, most=3) if at % 2 else unary_task(source, 4, 3)
            k = source.randint(0, 3)
            fine = naive_theories_fit(task, k)
            for one in [*source.sample(candidates(task), min(4, len(candidates(task)))), *task.good, *task.bad]:
                if fine:
                    found = says(task, k, one)
                    self.assertEqual(found, naive_says(task, k, one))
                    counts[found] += one not in task.good and one not in task.bad
                else:
                    self.raises(NoTheory, {}, says, task, k, one)
        self.assertGreater(min(counts.values()), 10)


class WitnessesTest(Case):
    def test_one_of_each_kind(self):
        task = task_of(HALVES, ["bob"], ["cid"])
        told = [("goal", (0,))]
        self.assertEqual(witnesses(task, 1, example("bob")), (told, None))
        self.assertEqual(witnesses(task, 1, example("cid")), (None, told))
        self.assertEqual(witnesses(task, 1, example("ann")), (told, None))
        self.assertEqual(witnesses(task, 1, example("dan")), (None, told))
        task = task_of(HALVES, ["ann"], ["dan"])
        self.assertEqual(witnesses(task, 1, example("bob")), (told, [("goal", (1,))]))
        self.assertEqual(witnesses(task, 1, example("cid")), ([("goal", (1,))], told))

    def test_random_cases(self):
        source = random.Random(102)
        for at in range(100):
            task = some_task(source, most=3) if at % 2 else unary_task(source, 4, 4)
            k = source.randint(0, 3)
            if theory(task, k) is None:
                continue
            for one in [*source.sample(candidates(task), min(4, len(candidates(task)))), *task.good, *task.bad]:
                having, without = witnesses(task, k, one)
                word = says(task, k, one)
                self.assertEqual((having is None, without is None), (word == "never", word == "sure"))
                for found, truth in [(having, True), (without, False)]:
                    if found is not None:
                        self.assertLessEqual(len(found), k)
                        self.assertIs(judge_theory(task, found), True)
                        self.assertIs(any(is_covered(task, body, one) for _, body in found), truth)
                if one in task.good:
                    self.assertEqual((having, without), (theory(task, k), None))
                elif one in task.bad:
                    self.assertEqual((having, without), (None, theory(task, k)))
                else:
                    self.assertEqual(having, theory(with_example(task, one, True), k))
                    self.assertEqual(without, theory(with_example(task, one, False), k))

    def test_the_lists_are_new(self):
        task = task_of(HALVES, ["bob"], ["cid"])
        witnesses(task, 1, example("bob"))[0].clear()
        self.assertEqual(witnesses(task, 1, example("bob")), ([("goal", (0,))], None))

    def test_too_many_sets(self):
        task = large_task(good=2, bad=0)
        self.assertIsNotNone(says(task, 1, candidates(task)[0]))
        self.large("sets", witnesses, task, 1, task.good[0])
        self.large("sets", witnesses, task, 1, candidates(task)[0])


class CandidatesTest(Case):
    def test_in_order(self):
        task = task_of(HALVES, ["cid"], ["ann"])
        self.assertEqual(candidates(task), [example("bob"), example("dan")])
        text = "known red 1\nunknown goal 2\nnames 2\nworld c a\nworld b\nbad 0 goal(c,a)\n"
        rows = [(0, "c c"), (0, "a c"), (0, "a a"), (1, "b b")]
        self.assertEqual(candidates(read_task(text)), [example(row, world) for world, row in rows])

    def test_three_places(self):
        text = "known red 1\nunknown goal 3\nnames 3\nworld c a b\n"
        found = candidates(read_task(text))
        self.assertEqual(found, [(0, "goal", row) for row in all_rows("cab", 3)])
        self.assertEqual(found[:4], [example(row) for row in ["c c c", "c c a", "c c b", "c a c"]])

    def test_none_left(self):
        self.assertEqual(candidates(task_of(HALVES, ["ann", "bob"], ["cid", "dan"])), [])

    def test_whether_a_theory_fits_does_not_matter(self):
        self.assertEqual(candidates(task_of(HALVES, ["bob", "cid"], ["ann"])), [example("dan")])
        self.assertEqual(len(candidates(full_task(8, 8))), 8)

    def test_the_list_is_new(self):
        task = task_of(HALVES, ["ann", "bob", "cid"])
        candidates(task).clear()
        self.assertEqual(candidates(task), [example("dan")])


class OpenTest(Case):
    def test_in_order(self):
        self.assertEqual(open_examples(task_of(HALVES, ["ann"], ["dan"]), 1), [example("bob"), example("cid")])
        self.assertEqual(open_examples(task_of(HALVES, ["bob"], ["cid"]), 1), [])
        self.assertEqual(open_examples(task_of(REDS, ["ann"]), 1), [example("cid")])
        self.assertEqual(open_examples(task_of(HALVES, [], []), 0), [])

    def test_random_cases(self):
        source = random.Random(103)
        lengths = []
        for at in range(120):
            task = some_task(source, most=3) if at % 2 else unary_task(source, 4, 3)
            k = source.randint(0, 3)
            if theory(task, k) is None:
                self.raises(NoTheory, {}, open_examples, task, k)
            else:
                found = open_examples(task, k)
                self.assertEqual(found, [one for one in candidates(task) if naive_says(task, k, one) == "open"])
                lengths.append(len(found))
        self.assertGreater(len([length for length in lengths if length > 2]), 20)

    def test_the_list_is_new(self):
        task = task_of(HALVES, ["ann"], ["dan"])
        open_examples(task, 1).clear()
        self.assertEqual(open_examples(task, 1), [example("bob"), example("cid")])


class ErrorTest(Case):
    def test_unknown_examples_ahead_of_no_theory(self):
        for task in [task_of(HALVES, ["ann"], ["dan"]), task_of(HALVES, ["bob"], ["ann"])]:
            for one in UNKNOWN:
                for call in (says, witnesses):
                    self.raises(UnknownExample, {"example": one}, call, task, 1, one)

    def test_no_theory(self):
        task = task_of(HALVES, ["bob", "cid"], ["dan"])
        for row in ["ann", "bob", "dan"]:
            for call in (says, witnesses):
                self.raises(NoTheory, {}, call, task, 1, example(row))
        self.raises(NoTheory, {}, open_examples, task, 1)
        self.assertEqual(says(task, 2, example("dan")), "never")
        task = task_of(HALVES, ["ann", "bob"], ["cid", "dan"])
        self.assertEqual(open_examples(task, 1), [])
        self.raises(NoTheory, {}, open_examples, task, 0)

    def test_eight_examples_of_a_kind(self):
        for good, bad in [(8, 3), (3, 8), (8, 8)]:
            task = full_task(good, bad)
            one = candidates(task)[0]
            for call in (says, witnesses):
                self.large("examples", call, task, 1, one)
            self.large("examples", open_examples, task, 1)
            self.assertEqual((says(task, 1, task.good[0]), says(task, 1, task.bad[0])), ("sure", "never"))
            self.assertEqual(witnesses(task, 1, task.bad[0]), (None, [("goal", (0,))]))
            self.raises(UnknownExample, {"example": example("x")}, says, task, 1, example("x"))
        task = full_task(7, 7)
        self.assertEqual({says(task, 1, one) for one in candidates(task)}, {"sure", "never"})

    def test_the_tasks_with_the_example_are_made_ahead_of_no_theory(self):
        task = full_task(8, 3)
        for call in (says, witnesses):
            self.large("examples", call, task, 0, candidates(task)[0])
            self.raises(NoTheory, {}, call, task, 0, task.good[0])

    def test_tasks_that_are_not_plain(self):
        for task in NOT_PLAIN:
            for one in [(0, "goal", ("ann",)), (5, "none", ())]:
                self.invalid(InvalidTask, "plain", with_example, task, one, True)
                for call in (says, witnesses):
                    self.invalid(InvalidTask, "plain", call, task, 1, one)
            self.invalid(InvalidTask, "plain", candidates, task)
            self.invalid(InvalidTask, "plain", open_examples, task, 0)


class LimitTest(Case):
    """64 atoms, 7 good and 7 bad examples, four worlds of six constants, four names."""

    def test_one_place(self):
        task = large_task(7, 7)
        k = least_k(task)
        found = open_examples(task, k)
        self.assertEqual(found, [one for one in candidates(task) if says(task, k, one) == "open"])
        self.assertEqual((len(found), len(candidates(task))), (9, 10))

    def test_two_and_three_places(self):
        for places, bad, count in [(2, 7, 100), (3, 3, 500)]:
            task = large_task(7, bad, places)
            k = least_k(task)
            found = open_examples(task, k)
            self.assertGreater(len(found), count)
            for one in candidates(task)[::60]:
                self.assertIs(says(task, k, one) == "open", one in found)
