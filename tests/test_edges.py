"""Point 33, and the interface of fewrules/edges.py."""

import random

from fewrules.edges import between, fits, most_general, most_special
from fewrules.errors import InvalidBody, InvalidTask
from fewrules.meets import greatest_meets
from fewrules.tasks import Signature, Task
from fewrules.transversals import lacks, least_transversals
from fewrules.worlds import World
from tests.plain_support import (
    HALVES, NOT_PLAIN, all_bodies, body, greatest_ones, is_part, large_task, least_ones, naive_fitting, some_task,
    task_of,
)
from tests.support import Case, all_rows

WAYS = "known tie 2\nunknown goal 1\nnames 2\nworld u v w x y\n" + "".join(
    f"fact tie({row})\n" for row in ["u,v", "w,u", "v,v", "x,x", "v,y"])


def without_facts(good):
    """A large task with one good example more, of which only the empty body can be true."""
    whole = large_task()
    worlds = [*whole.worlds[:3], World(["x"], [])]
    bad = [one for one in whole.bad if one[0] < 3]
    return Task(whole.signature, [], worlds, 4, good=good, bad=bad)


def dense_task(seed):
    """A task without good examples, with two bad ones that have many facts."""
    source = random.Random(seed)
    known = [("own", 2), ("tie", 2), ("see", 2), ("pay", 2)]
    constants = ["ann", "bob", "cid"]
    rows = [(name, row) for name, _ in known for row in all_rows(constants, 2)]
    worlds = [World(constants, [fact for fact in rows if source.random() < 0.5]) for _ in range(2)]
    bad = [(at, "goal", ("ann",)) for at in range(2)]
    return Task(Signature(known, [("goal", 1)]), [], worlds, 3, good=[], bad=bad)


class FitsTest(Case):
    def test_bodies(self):
        task = task_of(HALVES, ["ann"], ["bob"])
        self.assertEqual([fits(task, row) for row in [(), (0,), (1,), (0, 1)]], [False, False, True, True])
        task = task_of(HALVES, ["bob"], ["cid", "dan"])
        self.assertEqual([fits(task, row) for row in [(), (0,), (1,), (0, 1)]], [False, True, False, False])

    def test_without_examples(self):
        task = task_of(HALVES)
        self.assertTrue(all(fits(task, row) for row in all_bodies(task)))

    def test_random_cases(self):
        source = random.Random(50)
        for _ in range(40):
            task = some_task(source)
            fitting = naive_fitting(task)
            for numbers in all_bodies(task)[::5]:
                self.assertIs(fits(task, numbers), numbers in fitting)

    def test_bodies_that_are_none(self):
        task = task_of(HALVES, ["ann"], ["bob"])
        for numbers in [(2,), (-1,), (1, 0), (0, 0), (0, 10**20)]:
            self.invalid(InvalidBody, "body", fits, task, numbers)
            self.invalid(InvalidBody, "body", between, task, numbers)


class MostTest(Case):
    def test_one_body(self):
        task = task_of(HALVES, ["ann"], ["bob", "cid"])
        self.assertEqual((most_special(task), most_general(task)), ([(0, 1)], [(0, 1)]))

    def test_several_bodies(self):
        task = task_of(HALVES, ["ann"], ["dan"])
        self.assertEqual((most_special(task), most_general(task)), ([(0, 1)], [(0,), (1,)]))
        task = task_of(WAYS, ["u"], [])
        self.assertEqual(most_general(task), [()])
        self.assertEqual(most_special(task), [body(task, "tie(a,b) and tie(b,b)"), body(task, "tie(b,a)")])

    def test_a_meet_that_covers_a_bad_example(self):
        task = task_of(WAYS, ["u"], ["w"])
        self.assertEqual(greatest_meets(task), [body(task, "tie(a,b) and tie(b,b)"), body(task, "tie(b,a)")])
        self.assertEqual(most_special(task), [body(task, "tie(a,b) and tie(b,b)"), body(task, "tie(b,a)")])
        self.assertEqual(most_general(task), [body(task, "tie(a,b) and tie(b,b)"), body(task, "tie(b,a)")])
        task = task_of(WAYS, ["u"], ["y"])
        self.assertEqual(most_special(task), [body(task, "tie(a,b) and tie(b,b)")])
        self.assertEqual(most_general(task), [body(task, "tie(a,b)")])
        task = task_of(WAYS, ["u"], ["x"])
        self.assertEqual((most_special(task), most_general(task)), ([], []))

    def test_no_body(self):
        task = task_of(HALVES, ["bob"], ["ann"])
        self.assertEqual((most_special(task), most_general(task)), ([], []))

    def test_no_good_example(self):
        task = task_of(HALVES, [], ["dan"])
        self.assertEqual((most_special(task), most_general(task)), ([(0, 1)], [(0,), (1,)]))
        task = task_of(HALVES, [], ["ann"])
        self.assertEqual((most_special(task), most_general(task)), ([], []))

    def test_random_cases(self):
        source = random.Random(51)
        for _ in range(120):
            task = some_task(source, most=3)
            fitting = naive_fitting(task)
            self.assertEqual(most_special(task), greatest_ones(fitting))
            self.assertEqual(most_general(task), least_ones(fitting))

    def test_the_lists_are_new(self):
        task = task_of(HALVES, ["ann"], ["dan"])
        most_special(task).clear()
        most_general(task).clear()
        self.assertEqual((most_special(task), most_general(task)), ([(0, 1)], [(0,), (1,)]))


class BetweenTest(Case):
    def test_a_body(self):
        task = task_of(HALVES, ["ann"], ["dan"])
        self.assertEqual(between(task, (0,)), ((0,), (0, 1)))
        self.assertEqual(between(task, (1,)), ((1,), (0, 1)))
        self.assertEqual(between(task, (0, 1)), ((0,), (0, 1)))
        self.assertIsNone(between(task, ()))

    def test_random_cases(self):
        source = random.Random(52)
        for _ in range(60):
            task = some_task(source, most=2)
            fitting = naive_fitting(task)
            special, general = greatest_ones(fitting), least_ones(fitting)
            for numbers in all_bodies(task)[::7]:
                wanted = None
                if numbers in fitting:
                    inner = [row for row in general if is_part(row, numbers)]
                    wanted = (inner[0], [row for row in special if is_part(numbers, row)][0])
                self.assertEqual(between(task, numbers), wanted)


class LimitTest(Case):
    def test_too_many_meets(self):
        task = large_task(bad=0)
        for call in (most_special, most_general):
            self.large("sets", call, task)
        self.assertIs(fits(task, ()), True)
        self.large("sets", between, task, ())

    def test_too_many_transversals(self):
        task = large_task(good=1, likely=3)
        self.large("sets", least_transversals, lacks(task))
        found = most_special(task)
        self.assertGreater(len(found), 50)
        self.large("sets", most_general, task)
        self.assertIs(fits(task, found[0]), True)
        self.large("sets", between, task, found[0])

    def test_the_lacks_are_taken_in_their_order(self):
        for seed in (54, 135, 154):
            task = dense_task(seed)
            self.assertLess(len(least_transversals(lacks(task)[::-1])), 2001)
            self.large("sets", least_transversals, lacks(task))
            self.large("sets", most_general, task)
        for seed in (129, 385, 565):
            task = dense_task(seed)
            self.large("sets", least_transversals, lacks(task)[::-1])
            self.assertEqual(most_general(task), least_transversals(lacks(task)))

    def test_too_many_also_where_none_fits(self):
        task = without_facts([(3, "goal", ("x",))])
        self.assertEqual((greatest_meets(task), most_special(task)), ([()], []))
        self.large("sets", most_general, task)

    def test_a_body_that_does_not_fit_is_told_at_once(self):
        self.assertIsNone(between(large_task(), ()))
        self.assertIsNone(between(large_task(), (0, 21)))

    def test_a_large_task(self):
        task = large_task(good=8, bad=3, places=2, likely=4, shift=2)
        special = most_special(task)
        self.assertEqual(len(special), 54)
        self.assertTrue(all(fits(task, row) for row in special[::60]))


class PlainTest(Case):
    def test_tasks_that_are_not_plain(self):
        for task in NOT_PLAIN:
            for call in (most_special, most_general):
                self.invalid(InvalidTask, "plain", call, task)
            for numbers in [(), (9,), (-1,)]:
                self.invalid(InvalidTask, "plain", fits, task, numbers)
                self.invalid(InvalidTask, "plain", between, task, numbers)
