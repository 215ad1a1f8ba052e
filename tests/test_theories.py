"""Points 42 to 44, and the interface of fewrules/theories.py."""

import random

from fewrules.colours import colour_tree, judge_colours, least_colouring
from fewrules.edges import most_general
from fewrules.errors import InvalidTask, InvalidTheory
from fewrules.lots import hard_lots, judge_lots, lot_paper
from fewrules.tasks import Task
from fewrules.texts import write_theory
from fewrules.theories import judge_refusal, judge_theory, least_k, refusal, theory
from tests.plain_support import (
    HALVES, NOT_PLAIN, is_covered, large_task, least_ones, naive_colourings, naive_fitting, naive_hard_lots,
    naive_theories_fit, some_task, task_of, unary_task,
)
from tests.support import Case
from tests.test_colours import changed as changed_tree
from tests.test_tables import changed as changed_table

# Each of u, v and w has another one of three things, so that no rule takes two of them.
THREE = "known p 1\nknown q 1\nknown r 1\nunknown goal 1\nnames 1\nworld u v w x y z\n" + "".join(
    f"fact {fact}\n" for fact in ["p(u)", "q(v)", "r(w)", "p(x)", "q(x)"])


def naive_theory(task, k):
    """The theory by the words of point 43, or None."""
    colourings = naive_colourings(len(task.good), naive_hard_lots(task), k)
    if not colourings:
        return None
    told = []
    for colour in range(max(colourings[0], default=-1) + 1):
        lot = [at for at, other in enumerate(colourings[0]) if other == colour]
        told.append(("goal", least_ones(naive_fitting(task, lot))[0]))
    return told


def part_of(task, lot):
    """The task with the good examples of the lot alone."""
    good = [task.good[at] for at in lot]
    return Task(task.signature, task.background, task.worlds, task.names, good=good, bad=task.bad)


class TheoryTest(Case):
    def told(self, task, k, *lines):
        self.assertEqual(write_theory(task, theory(task, k)), list(lines))

    def test_no_good_example(self):
        for bad in ([], ["dan"], ["ann"]):
            for k in range(3):
                self.assertEqual(theory(task_of(HALVES, [], bad), k), [])

    def test_no_bad_example(self):
        task = task_of(HALVES, ["ann", "dan"])
        self.assertIsNone(theory(task, 0))
        self.told(task, 1, "goal(a)")
        self.told(task, 5, "goal(a)")

    def test_one_rule(self):
        self.told(task_of(HALVES, ["ann", "bob"], ["dan"]), 1, "goal(a) if red(a)")
        self.told(task_of(HALVES, ["ann"], ["dan"]), 1, "goal(a) if red(a)")
        self.told(task_of(HALVES, ["ann"], ["bob", "cid"]), 1, "goal(a) if red(a) and big(a)")

    def test_one_rule_is_too_few(self):
        task = task_of(HALVES, ["ann", "bob", "cid"], ["dan"])
        self.assertIsNone(theory(task, 1))
        self.told(task, 2, "goal(a) if red(a)", "goal(a) if big(a)")
        self.told(task, 10**20, "goal(a) if red(a)", "goal(a) if big(a)")

    def test_three_rules(self):
        task = task_of(THREE, ["u", "w", "v", "x"], ["z"])
        self.assertIsNone(theory(task, 2))
        self.told(task, 3, "goal(a) if p(a)", "goal(a) if r(a)", "goal(a) if q(a)")

    def test_no_theory_at_all(self):
        for good, bad in [(["bob", "dan"], ["cid"]), (["bob"], ["ann"]), (["cid", "bob"], ["dan", "ann"])]:
            for k in range(4):
                self.assertIsNone(theory(task_of(HALVES, good, bad), k))

    def test_random_cases(self):
        source = random.Random(90)
        lengths = {length: 0 for length in range(7)}
        for at in range(250):
            task = some_task(source) if at % 2 else unary_task(source)
            for k in range(4):
                found = theory(task, k)
                self.assertEqual(found, naive_theory(task, k))
                self.assertIs(found is not None, naive_theories_fit(task, k))
                if found is not None:
                    self.assertLessEqual(len(found), k)
                    self.assertIs(judge_theory(task, found), True)
                    lengths[len(found)] += 1
        self.assertGreater(min(lengths[1], lengths[2]), 20)
        self.assertGreater(lengths[3], 2)

    def test_the_list_is_new(self):
        task = task_of(HALVES, ["ann"], ["dan"])
        theory(task, 1).clear()
        self.told(task, 1, "goal(a) if red(a)")


class LeastTest(Case):
    def test_numbers(self):
        self.assertEqual(least_k(task_of(HALVES)), 0)
        self.assertEqual(least_k(task_of(HALVES, [], ["ann"])), 0)
        self.assertEqual(least_k(task_of(HALVES, ["dan"])), 1)
        self.assertEqual(least_k(task_of(HALVES, ["bob", "cid"], ["dan"])), 2)
        self.assertEqual(least_k(task_of(THREE, ["u", "v", "w"], ["z"])), 3)

    def test_a_good_example_that_is_hard_alone(self):
        self.assertIsNone(least_k(task_of(HALVES, ["ann", "dan"], ["bob"])))
        self.assertIsNone(least_k(task_of(HALVES, ["bob"], ["ann"])))

    def test_random_cases(self):
        source = random.Random(91)
        for at in range(200):
            task = some_task(source) if at % 2 else unary_task(source)
            fine = [k for k in range(len(task.good) + 1) if naive_theories_fit(task, k)]
            self.assertEqual(least_k(task), fine[0] if fine else None)
            self.assertIs(not fine, any(len(lot) == 1 for lot in hard_lots(task)))


class RefusalTest(Case):
    def test_where_a_theory_fits(self):
        self.assertIsNone(refusal(task_of(HALVES), 0))
        self.assertIsNone(refusal(task_of(HALVES, ["bob", "cid"], ["dan"]), 2))

    def test_no_colours(self):
        task = task_of(HALVES, ["ann"], ["dan"])
        self.assertEqual(refusal(task, 0), ([], ("give", [])))
        self.assertIs(judge_refusal(task, 0, ([], ("give", []))), True)

    def test_one_colour(self):
        task = task_of(HALVES, ["ann", "bob", "cid"], ["dan"])
        paper = [((1, 2), ([[(0, 1)], [(0,)], []], [(0, ("dan",))]))]
        self.assertEqual(refusal(task, 1), (paper, ("give", [("give", [("give", [("lot", 0)])])])))

    def test_all_least_hard_lots_stand_in_the_paper(self):
        source = random.Random(92)
        found = 0
        for at in range(200):
            task = some_task(source) if at % 2 else unary_task(source)
            for k in range(3):
                told = refusal(task, k)
                if naive_theories_fit(task, k):
                    self.assertIsNone(told)
                else:
                    found += 1
                    self.assertEqual(told, (lot_paper(task), colour_tree(len(task.good), hard_lots(task), k)))
                    self.assertIs(judge_refusal(task, k, told), True)
        self.assertGreater(found, 100)

    def test_the_lists_are_new(self):
        task = task_of(HALVES, ["bob", "cid"], ["dan"])
        before = repr(refusal(task, 1))
        told = refusal(task, 1)
        told[0][0][1][0].clear()
        told[0].clear()
        told[1][1].clear()
        self.assertEqual(repr(refusal(task, 1)), before)


class JudgeRefusalTest(Case):
    TASK = task_of(THREE, ["u", "v", "w"], ["z"])

    def judged(self, wanted, paper, tree, k=2):
        self.assertIs(judge_refusal(self.TASK, k, (paper, tree)), wanted)

    def test_the_told_one_and_others(self):
        paper, tree = refusal(self.TASK, 2)
        self.assertEqual([lot for lot, _ in paper], [(0, 1), (0, 2), (1, 2)])
        self.assertEqual(tree, ("give", [("give", [("lot", 0), ("give", [("lot", 1), ("lot", 2)])])]))
        self.judged(True, paper, tree)
        self.judged(True, [*paper, paper[0]], tree)
        late = ("give", [("give", [("give", [("lot", 0), ("lot", 0)]), tree[1][0][1][1]])])
        self.judged(True, paper, late)

    def test_other_numbers_of_rules(self):
        paper, tree = refusal(self.TASK, 2)
        for k in (0, 1, 3, 10**20):
            self.judged(False, paper, tree, k)
        self.judged(True, paper, ("give", [("give", [("lot", 0)])]), 1)
        self.judged(True, [], ("give", []), 0)

    def test_changed_trees(self):
        paper, tree = refusal(self.TASK, 2)
        for other in [("lot", 0), ("give", []), tree[1][0], ("give", [tree]), ("give", tree[1] * 2),
                      ("give", [("give", [("lot", 0), ("give", [("lot", 2), ("lot", 1)])])]),
                      ("give", [("give", [("lot", 3), ("give", [("lot", 1), ("lot", 2)])])])]:
            self.judged(False, paper, other)

    def test_changed_papers(self):
        paper, tree = refusal(self.TASK, 2)
        self.judged(False, paper[::-1], tree)
        self.judged(False, paper[1:], tree)
        self.judged(False, paper[:2], tree)
        self.judged(False, [], tree)
        for lot in [(1, 0), (0, 0), (0, 3), (-3, 1), (), (0,), (0, 1, 2)]:
            self.judged(False, [(lot, paper[0][1]), *paper[1:]], tree)
        for table in [(), ([], []), (paper[0][1][0], []), paper[1][1]]:
            self.judged(table == paper[0][1], [(paper[0][0], table), *paper[1:]], tree)

    def test_a_wrong_table_that_the_tree_does_not_need(self):
        paper, tree = refusal(self.TASK, 2)
        self.judged(False, [*paper, ((0, 1, 2), ([], []))], tree)

    def test_no_good_example(self):
        task = task_of(HALVES, [], ["dan"])
        for tree in [("give", []), ("lot", 0)]:
            self.assertIs(judge_refusal(task, 0, ([], tree)), False)

    def test_refusals_of_random_cases(self):
        source = random.Random(93)
        counts = {True: 0, False: 0}
        for at in range(300):
            task = some_task(source) if at % 2 else unary_task(source)
            k = source.randint(0, 2)
            paper, tree = refusal(task, k) or (lot_paper(task), ("give", [("lot", 0)]))
            if source.random() < 0.5:
                tree = changed_tree(source, tree)
            if paper and source.random() < 0.5:
                at = source.randrange(len(paper))
                paper[at] = (paper[at][0], changed_table(source, task, paper[at][1]))
            wanted = judge_lots(task, paper) and judge_colours(len(task.good), [lot for lot, _ in paper], k, tree)
            self.assertIs(judge_refusal(task, k, (paper, tree)), wanted)
            self.assertFalse(wanted and naive_theories_fit(task, k))
            counts[wanted] += 1
        self.assertGreater(min(counts.values()), 50)


class JudgeTheoryTest(Case):
    def test_theories(self):
        task = task_of(HALVES, ["ann", "bob", "cid"], ["dan"])
        for bodies, wanted in [([], False), ([()], False), ([(0,)], False), ([(0,), (1,)], True), ([(1,), (0,)], True),
                               ([(0,), (1,), (0, 1), (0,)], True), ([(0,), (1,), ()], False), ([(0, 1)], False)]:
            self.assertIs(judge_theory(task, [("goal", row) for row in bodies]), wanted)

    def test_no_good_example(self):
        self.assertIs(judge_theory(task_of(HALVES, [], ["ann"]), []), True)
        self.assertIs(judge_theory(task_of(HALVES, [], ["dan"]), [("goal", ())]), False)

    def test_random_cases(self):
        source = random.Random(94)
        for _ in range(100):
            task = some_task(source)
            atoms = range(len(task.atoms))
            bodies = [tuple(sorted(source.sample(atoms, source.randint(0, min(3, len(atoms))))))
                      for _ in range(source.randint(0, 4))]
            wanted = all(any(is_covered(task, row, one) for row in bodies) for one in task.good)
            wanted = wanted and not any(is_covered(task, row, one) for row in bodies for one in task.bad)
            rules = [("goal", row) for row in bodies]
            self.assertIs(judge_theory(task, rules), wanted)

    def test_rules_that_are_none_of_the_task(self):
        task = task_of(HALVES, ["ann"], ["dan"])
        fine = ("goal", (0,))
        for name in ["red", "none", ""]:
            self.invalid(InvalidTheory, "unknown", judge_theory, task, [fine, (name, (0,))])
            self.invalid(InvalidTheory, "unknown", judge_theory, task, [(name, (9,)), ("goal", (9,))])
        for numbers in [(2,), (-1,), (1, 0), (0, 0)]:
            self.invalid(InvalidTheory, "body", judge_theory, task, [fine, ("goal", numbers)])
            self.invalid(InvalidTheory, "body", judge_theory, task, [("goal", numbers), ("none", ())])


class LimitTest(Case):
    """64 atoms, 8 good and 8 bad examples, four worlds of six constants, four names."""

    def test_one_place(self):
        task = large_task()
        self.assertEqual(least_k(task), 3)
        for k in (1, 2):
            self.assertIsNone(theory(task, k))
        told = refusal(task, 2)
        self.assertIs(judge_refusal(task, 2, told), True)
        self.assertIs(judge_refusal(task, 3, told), False)
        self.assertIsNone(refusal(task, 3))
        self.large("sets", theory, task, 3)

    def test_two_and_three_places(self):
        task = large_task(places=2, wide=11, likely=4)
        self.assertEqual(least_k(task), 2)
        self.assertIs(judge_refusal(task, 1, refusal(task, 1)), True)
        task = large_task(places=3)
        self.assertIsNone(least_k(task))
        self.assertIs(judge_refusal(task, 8, refusal(task, 8)), True)

    def test_theories_that_fit(self):
        for places, bad, wide, shift, k in [(2, 3, 13, 2, 4), (2, 3, 13, 3, 2), (3, 3, 7, 1, 3), (3, 2, 13, 1, 3)]:
            task = large_task(bad=bad, places=places, wide=wide, shift=shift)
            self.assertEqual(least_k(task), k)
            found = theory(task, k)
            self.assertEqual(len(found), k)
            self.assertIs(judge_theory(task, found), True)
            colours = least_colouring(8, hard_lots(task), k)
            lots = [[at for at, other in enumerate(colours) if other == colour] for colour in range(k)]
            self.assertEqual(found, [("goal", most_general(part_of(task, lot))[0]) for lot in lots])

    def test_too_many_sets_for_the_task_of_a_colour(self):
        task = large_task(bad=0)
        self.large("sets", theory, task, 1)
        self.assertIsNone(theory(task, 0))
        self.assertEqual(least_k(task), 1)
        task = large_task(good=1, likely=3)
        self.large("sets", most_general, task)
        self.large("sets", theory, task, 1)
        self.assertEqual(theory(large_task(good=0), 1), [])

    def test_a_judged_theory(self):
        task = large_task(good=8, bad=0)
        self.assertIs(judge_theory(task, [("goal", ())]), True)
        self.assertIs(judge_theory(task, [("goal", tuple(range(64)))] * 20), False)


class PlainTest(Case):
    def test_tasks_that_are_not_plain(self):
        for task in NOT_PLAIN:
            for call in (theory, refusal):
                self.invalid(InvalidTask, "plain", call, task, 1)
            self.invalid(InvalidTask, "plain", least_k, task)
            self.invalid(InvalidTask, "plain", judge_theory, task, [("none", (-1,))])
            for told in [([], ("give", [])), ([((5,), ())], ("lot", 7))]:
                self.invalid(InvalidTask, "plain", judge_refusal, task, 0, told)
