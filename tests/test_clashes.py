"""Points 68 to 71, and the interface of fewrules/clashes.py."""

import copy
import random
from itertools import combinations

from fewrules.clashes import (
    all_examples, clashes, diagnosis, judge_diagnosis, mends, numbered_lots, numbers_of, part_task,
)
from fewrules.errors import InvalidTask
from fewrules.lots import hard_lots
from fewrules.texts import read_task
from fewrules.theories import refusal, theory
from fewrules.transversals import least_transversals
from tests.plain_support import (
    HALVES, NOT_PLAIN, all_parts, example, large_task, naive_hard_lots, naive_theories_fit, some_task, task_of,
    unary_task,
)
from tests.support import Case, all_rows
from tests.test_says import as_told, full_task, with_lists

REDS = "known red 1\nunknown good 1\nnames 1\nworld ann bob cid\nfact red(ann)\nfact red(bob)\ngood 0 good(ann)\n"


def small_task(source, at):
    """A plain task with at most six examples."""
    return some_task(source, most=3) if at % 2 else unary_task(source, 3, 3)


def naive_part(task, chosen):
    return with_lists(task, [one for one in task.good if one in chosen], [one for one in task.bad if one in chosen])


def naive_clashes(task, k):
    """The clashes by the words of point 70: numbers of least parts that no theory of at most k rules fits."""
    numbers = {one: at for at, one in enumerate(naive_examples(task))}
    own = sorted(task.good + task.bad, key=lambda one: numbers[one])
    found = []
    for chosen in all_parts(own):
        if not any(set(other) <= set(chosen) for other in found):
            if not naive_theories_fit(naive_part(task, chosen), k):
                found.append(chosen)
    return sorted(tuple(numbers[one] for one in chosen) for chosen in found)


def naive_mends(task, k):
    numbers = {one: at for at, one in enumerate(naive_examples(task))}
    own = sorted(task.good + task.bad, key=lambda one: numbers[one])
    found = []
    for chosen in all_parts(own):
        if not any(set(other) <= set(chosen) for other in found):
            if naive_theories_fit(naive_part(task, set(own) - set(chosen)), k):
                found.append(chosen)
    return sorted(tuple(numbers[one] for one in chosen) for chosen in found)


def naive_examples(task):
    name, places = task.signature.unknown[0]
    return [(at, name, row) for at, world in enumerate(task.worlds) for row in all_rows(world.constants, places)]


class NumbersTest(Case):
    def test_all_examples(self):
        task = read_task("known red 1\nunknown goal 2\nnames 2\nworld c a\nworld b\nbad 1 goal(b,b)\ngood 0 goal(c,a)\n"
                         .replace("bad 1 goal(b,b)\n", "") + "bad 1 goal(b,b)\n")
        rows = [(0, "c c"), (0, "c a"), (0, "a c"), (0, "a a"), (1, "b b")]
        self.assertEqual(all_examples(task), [example(row, world) for world, row in rows])
        self.assertEqual(numbers_of(task), (1, 4))
        all_examples(task).clear()
        self.assertEqual(len(all_examples(task)), 5)

    def test_against_the_words(self):
        source = random.Random(300)
        for at in range(30):
            task = small_task(source, at)
            found = all_examples(task)
            self.assertEqual(found, naive_examples(task))
            self.assertEqual(numbers_of(task), tuple(sorted(found.index(one) for one in task.good + task.bad)))

    def test_parts(self):
        source = random.Random(301)
        for at in range(30):
            task = small_task(source, at)
            for numbers in all_parts(numbers_of(task)):
                chosen = [all_examples(task)[number] for number in numbers]
                self.assertEqual(as_told(part_task(task, numbers)), as_told(naive_part(task, chosen)))
        self.assertEqual(as_told(part_task(task, numbers_of(task))), as_told(task))

    def test_numbered_lots(self):
        source = random.Random(302)
        many = 0
        for at in range(60):
            task = small_task(source, at)
            lots = [tuple(sorted(all_examples(task).index(task.good[one]) for one in lot))
                    for lot in naive_hard_lots(task)]
            self.assertEqual(numbered_lots(task), sorted(lots))
            many += len(lots) > 1
        self.assertGreater(many, 3)
        task = task_of(HALVES, ["cid", "bob"], ["dan"])
        self.assertEqual((hard_lots(task), numbered_lots(task)), ([(0, 1)], [(1, 2)]))


class ClashTest(Case):
    def test_the_worked_example(self):
        task = read_task(REDS + "bad 0 good(bob)\n")
        self.assertEqual((clashes(task, 1), mends(task, 1)), ([(0, 1)], [(0,), (1,)]))
        self.assertIs(judge_diagnosis(task, 1, diagnosis(task, 1)), True)

    def test_against_the_words(self):
        source = random.Random(303)
        several, fitting = 0, 0
        for at in range(80):
            task = small_task(source, at)
            k = source.randint(0, 3)
            found, gone = clashes(task, k), mends(task, k)
            self.assertEqual(found, naive_clashes(task, k))
            self.assertEqual(gone, naive_mends(task, k))
            self.assertEqual((gone, found), (least_transversals(found), least_transversals(gone) if found else []))
            self.assertEqual((found == [], gone == [()]), (theory(task, k) is not None,) * 2)
            for numbers in found:
                self.assertTrue(part_task(task, numbers).good)
            several += len(found) > 1
            fitting += not found
        self.assertGreater(several, 10)
        self.assertGreater(fitting, 10)

    def test_where_a_theory_fits(self):
        task = task_of(HALVES, ["bob"], ["cid"])
        self.assertEqual((clashes(task, 1), mends(task, 1), diagnosis(task, 1)[0]), ([], [()], []))
        self.assertEqual(diagnosis(task, 1)[1], [((), [("goal", (0,))])])
        self.assertIs(judge_diagnosis(task, 1, diagnosis(task, 1)), True)
        self.assertEqual((clashes(task, 0), mends(task, 0)), ([(1,)], [(1,)]))

    def test_without_examples(self):
        task = task_of(HALVES)
        for k in (0, 1):
            self.assertEqual((clashes(task, k), mends(task, k), diagnosis(task, k)), ([], [()], ([], [((), [])])))
            self.assertIs(judge_diagnosis(task, k, ([], [((), [])])), True)

    def test_nine_examples(self):
        for good, bad in [(8, 1), (1, 8), (4, 5), (8, 8)]:
            task = full_task(good, bad)
            for call in (clashes, mends, diagnosis):
                self.large("examples", call, task, 1)
            self.large("examples", judge_diagnosis, task, 1, ([], []))
        for good, bad in [(8, 0), (0, 8), (4, 4)]:
            self.assertEqual(clashes(full_task(good, bad), 1), [])

    def test_tasks_that_are_not_plain(self):
        for task in NOT_PLAIN:
            for call, rest in [(all_examples, ()), (numbers_of, ()), (part_task, ((),)), (numbered_lots, ()),
                               (clashes, (1,)), (mends, (1,)), (diagnosis, (1,)), (judge_diagnosis, (1, ([], [])))]:
                self.invalid(InvalidTask, "plain", call, task, *rest)

    def test_at_the_limits(self):
        for task in (large_task(4, 4), large_task(7, 1, 2), large_task(1, 7), large_task(4, 4, 1, 1, 7, 1)):
            for k in (0, 1, 2):
                found = clashes(task, k)
                self.assertEqual(mends(task, k), least_transversals(found))
                self.assertEqual(found == [], judge_fits(task, k))


def judge_fits(task, k):
    """Whether a theory fits, asked in another way."""
    return refusal(task, k) is None


class DiagnosisTest(Case):
    def test_what_is_told(self):
        source = random.Random(304)
        for at in range(50):
            task = small_task(source, at)
            k = source.randint(0, 2)
            refused, mended = diagnosis(task, k)
            self.assertEqual([numbers for numbers, _ in refused], clashes(task, k))
            self.assertEqual([numbers for numbers, _ in mended], mends(task, k))
            for numbers, told in refused:
                self.assertEqual(told, refusal(part_task(task, numbers), k))
            for numbers, rules in mended:
                others = tuple(number for number in numbers_of(task) if number not in numbers)
                self.assertEqual(rules, theory(part_task(task, others), k))
            self.assertIs(judge_diagnosis(task, k, (refused, mended)), True)

    def changed(self, told):
        """Each way in which a diagnosis has something left out, doubled, exchanged or changed."""
        refused, mended = told
        for at, (numbers, refusal_told) in enumerate(refused):
            paper, tree = refusal_told
            yield refused[:at] + refused[at + 1:], mended
            yield refused[:at] + refused[at:at + 1] * 2 + refused[at + 1:], mended
            for other in [numbers[1:], numbers + (999,), numbers[::-1], numbers * 2, (-1,), (), (10**20,)]:
                if other != numbers:
                    yield refused[:at] + [(other, refusal_told)] + refused[at + 1:], mended
            for other in [(paper[1:], tree), (paper, ("lot", 99)), (paper, ("give", [])), ([], tree),
                          ([(lot[:-1], table) for lot, table in paper], tree)]:
                if other != refusal_told and not (other[1] == tree and paper == other[0]):
                    yield refused[:at] + [(numbers, other)] + refused[at + 1:], mended
        for at, (numbers, rules) in enumerate(mended):
            yield refused, mended[:at] + mended[at + 1:]
            yield refused, mended[:at] + mended[at:at + 1] * 2 + mended[at + 1:]
            for other in [numbers + (999,), numbers[::-1], (-1, *numbers), numbers[1:]]:
                if other != numbers:
                    yield refused, mended[:at] + [(other, rules)] + mended[at + 1:]
            for other in [[("none", ())], [("goal", (99,))], [("goal", (-1,))], [("goal", (1, 0))], [("goal", (0, 0))],
                          [("goal", tuple(range(64)))], [("", ())]]:
                yield refused, mended[:at] + [(numbers, rules + other)] + mended[at + 1:]
        for order in (refused[::-1], mended), (refused, mended[::-1]):
            if order != told:
                yield order

    def test_changed_diagnoses(self):
        source = random.Random(305)
        looked = 0
        for at in range(40):
            task = small_task(source, at)
            k = source.randint(1, 2)
            told = diagnosis(task, k)
            for number, other in enumerate(self.changed(told)):
                if number < 60 and not self.is_fine(task, k, told, other):
                    self.assertIs(judge_diagnosis(task, k, other), False, other)
                    looked += 1
        self.assertGreater(looked, 300)

    def is_fine(self, task, k, told, other):
        """Whether a changed diagnosis still shows all: the paper of a refusal may have lots that are not asked for."""
        if [one[0] for one in told[0]] != [one[0] for one in other[0]] or told[1] != other[1]:
            return False
        return judge_diagnosis(task, k, other)

    def test_exchanged_parts(self):
        task = task_of(HALVES, ["ann", "bob"], ["cid", "dan"])
        task = with_lists(task, [example("dan"), example("bob")], [example("ann"), example("cid")])
        refused, mended = diagnosis(task, 1)
        self.assertGreater(len(refused), 1)
        swapped = [(refused[0][0], refused[1][1]), (refused[1][0], refused[0][1]), *refused[2:]]
        self.assertIs(judge_diagnosis(task, 1, (refused, mended)), True)
        if [len(part_task(task, row[0]).good) for row in refused[:2]] != [1, 1]:
            self.assertIs(judge_diagnosis(task, 1, (swapped, mended)), False)

    def test_more_rules_than_k(self):
        task = task_of(HALVES, ["bob", "cid"], ["dan"])
        told = diagnosis(task, 1)
        self.assertEqual([numbers for numbers, _ in told[0]], [(1, 2, 3)])
        self.assertIs(judge_diagnosis(task, 1, told), True)
        more = [(numbers, rules * 2) for numbers, rules in told[1]]
        self.assertIs(judge_diagnosis(task, 1, (told[0], more)), False)
        self.assertIs(judge_diagnosis(task, 2, told), False)
        self.assertIs(judge_diagnosis(task, 0, told), False)

    def test_tuples_that_clash_but_are_not_least(self):
        task = task_of(HALVES, ["bob"], ["ann", "dan"])
        found = diagnosis(task, 1)[0]
        self.assertEqual([numbers for numbers, _ in found], [(0, 1)])
        whole = (0, 1, 3)
        told = ([(whole, refusal(part_task(task, whole), 1))],
                [((number,), theory(part_task(task, tuple(one for one in whole if one != number)), 1) or [])
                 for number in whole])
        self.assertIs(judge_diagnosis(task, 1, told), False)

    def test_what_is_returned_is_new_and_what_is_passed_stays(self):
        task = task_of(HALVES, ["bob", "cid"], ["dan"])
        told = diagnosis(task, 1)
        before = copy.deepcopy(told)
        judge_diagnosis(task, 1, told)
        self.assertEqual(told, before)
        told[0][0][1][0].clear()
        told[1][0][1].clear()
        told[0].clear()
        told[1].clear()
        self.assertEqual(diagnosis(task, 1), before)
        for call in (clashes, mends):
            call(task, 1).clear()
            self.assertTrue(call(task, 1))

    def test_at_the_limits(self):
        task = large_task(4, 4, 3)
        for k in (0, 1, 2):
            told = diagnosis(task, k)
            self.assertIs(judge_diagnosis(task, k, told), True)
        self.large("sets", diagnosis, large_task(4, 4), 1)
        for numbers in combinations(numbers_of(task), 2):
            self.assertEqual(numbers_of(part_task(task, numbers)), numbers)
