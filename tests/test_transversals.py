"""Points 31 and 32, and the interface of fewrules/transversals.py."""

import random

from fewrules.errors import InvalidTask
from fewrules.transversals import lacks, least, least_transversals, meets_all
from tests.plain_support import (
    HALVES, NOT_PLAIN, all_bodies, all_parts, body, is_covered, large_task, least_ones, naive_sets, some_task, task_of,
)
from tests.support import Case


def pairs(count):
    """So many pairs that are apart."""
    return [(2 * at, 2 * at + 1) for at in range(count)]


def naive_transversals(sets):
    numbers = sorted({number for row in sets for number in row})
    return least_ones([part for part in all_parts(numbers) if all(set(part) & set(row) for row in sets)])


class WorkedTest(Case):
    def test_the_worked_example(self):
        self.assertEqual(least([(1, 2), (1,), (0, 3)]), [(0, 3), (1,)])
        self.assertEqual(least_transversals([(0, 1), (1, 2), (0, 2, 3)]), [(0, 1), (0, 2), (1, 2), (1, 3)])
        self.assertEqual((least_transversals([()]), least_transversals([])), ([], [()]))
        self.assertEqual((meets_all((1,), [(0, 1), (1, 2)]), meets_all((), [])), (True, True))


class LeastTest(Case):
    def test_edges(self):
        self.assertEqual(least([]), [])
        self.assertEqual(least([()]), [()])
        self.assertEqual(least([(3,), (), (0,), ()]), [()])
        self.assertEqual(least([(3,), (3,)]), [(3,)])
        self.assertEqual(least([(4, 5, 6), (4, 5), (5, 7)]), [(4, 5), (5, 7)])
        self.assertEqual(least([(7, 10**30), (10**30,), (10**30 + 1,)]), [(10**30,), (10**30 + 1,)])

    def test_random_cases(self):
        source = random.Random(40)
        for _ in range(200):
            rows = [tuple(sorted(source.sample(range(7), source.randint(0, 5)))) for _ in range(source.randint(0, 8))]
            before = list(rows)
            self.assertEqual(least(rows), least_ones(rows))
            self.assertEqual(rows, before)


class MeetsAllTest(Case):
    def test_tuples(self):
        for numbers, sets, wanted in [((), [()], False), ((1, 2), [()], False), ((), [(1,)], False), ((1,), [], True),
                                      ((1, 3), [(1,), (3,)], True), ((1, 3), [(1,), (2,)], False),
                                      ((10**20,), [(10**20, 10**21)] * 3, True)]:
            self.assertIs(meets_all(numbers, sets), wanted)


class LeastTransversalsTest(Case):
    def test_edges(self):
        self.assertEqual(least_transversals([(4,)]), [(4,)])
        self.assertEqual(least_transversals([(4, 9), (4, 9)]), [(4,), (9,)])
        self.assertEqual(least_transversals([(1, 2), (), (3,)]), [])
        self.assertEqual(least_transversals([(10**30,), (0, 10**30), (5, 6)]), [(5, 10**30), (6, 10**30)])

    def test_random_cases(self):
        source = random.Random(41)
        for _ in range(200):
            rows = [tuple(sorted(source.sample(range(7), source.randint(1, 4)))) for _ in range(source.randint(0, 7))]
            before = list(rows)
            found = least_transversals(rows)
            self.assertEqual(found, naive_transversals(rows))
            self.assertEqual(rows, before)
            self.assertTrue(all(meets_all(row, rows) for row in found))
            # The least ones among some sets are the least transversals of their least transversals.
            self.assertEqual(least_transversals(found), least(rows))

    def test_the_list_is_new(self):
        least_transversals([(1,)]).append(())
        self.assertEqual(least_transversals([(1,)]), [(1,)])


class LimitTest(Case):
    def test_pairs_that_are_apart(self):
        self.assertEqual(len(least_transversals(pairs(10))), 1024)
        self.large("sets", least_transversals, pairs(11))

    def test_the_limit_itself(self):
        """2000 are allowed: 1000 pairs of numbers that are apart, in two sets of 50 and 40 of them."""
        sets = [tuple(range(50)), tuple(range(50, 90))]
        self.assertEqual(len(least_transversals(sets)), 2000)
        self.large("sets", least_transversals, [tuple(range(29)), tuple(range(29, 98))])
        self.assertEqual(len(least_transversals([tuple(range(2000))])), 2000)
        self.large("sets", least_transversals, [tuple(range(2001))])

    def test_the_order_of_the_sets_matters(self):
        short = [(2 * at,) for at in range(11)]
        self.large("sets", least_transversals, [*pairs(11), *short])
        self.assertEqual(least_transversals([*short, *pairs(11)]), [tuple(range(0, 22, 2))])
        self.large("sets", least_transversals, [*pairs(11), ()])
        self.assertEqual(least_transversals([(), *pairs(11)]), [])

    def test_many_sets(self):
        rows = [tuple(sorted({at, at * at % 11, at * 3 % 13})) for at in range(40)] * 20
        found = least_transversals(rows)
        self.assertTrue(all(meets_all(row, rows) for row in found))
        self.assertEqual(least_transversals(found), least(rows))


class LacksTest(Case):
    def test_no_bad_example(self):
        self.assertEqual(lacks(task_of(HALVES, ["ann"])), [])

    def test_one_and_several(self):
        self.assertEqual(lacks(task_of(HALVES, bad=["dan"])), [(0, 1)])
        self.assertEqual(lacks(task_of(HALVES, bad=["cid", "bob"])), [(0,), (1,)])
        self.assertEqual(lacks(task_of(HALVES, bad=["cid", "dan"])), [(0,)])
        self.assertEqual(lacks(task_of(HALVES, bad=["ann", "cid"])), [()])

    def test_several_sets_of_an_example(self):
        text = "known tie 2\nunknown goal 1\nnames 2\nworld u v w\nfact tie(u,v)\nfact tie(w,u)\nfact tie(v,v)\n"
        task = task_of(text, bad=["u"])
        wanted = [body(task, "tie(a,a) and tie(a,b) and tie(b,b)"), body(task, "tie(a,a) and tie(b,a)")]
        self.assertEqual(lacks(task), wanted)

    def test_what_covers_no_bad_example_meets_all_lacks(self):
        source = random.Random(42)
        for _ in range(60):
            task = some_task(source)
            found = lacks(task)
            rows = [row for one in task.bad for row in naive_sets(task, one)]
            self.assertEqual(found, least_ones([tuple(sorted(set(range(len(task.atoms))) - set(row))) for row in rows]))
            for numbers in all_bodies(task)[::3]:
                wanted = not any(is_covered(task, numbers, one) for one in task.bad)
                self.assertIs(meets_all(numbers, found), wanted)

    def test_at_the_limits(self):
        found = lacks(large_task())
        self.assertGreater(len(found), 500)
        self.assertEqual(found, sorted(found))

    def test_tasks_that_are_not_plain(self):
        for task in NOT_PLAIN:
            self.invalid(InvalidTask, "plain", lacks, task)
