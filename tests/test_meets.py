"""Point 30 with the head of its part, point 15, and the interface of fewrules/meets.py."""

import random

from fewrules.errors import InvalidTask
from fewrules.meets import greatest, greatest_meets, meet
from fewrules.tasks import Task
from fewrules.worlds import World
from tests.plain_support import (
    HALVES, NOT_PLAIN, all_bodies, body, greatest_ones, is_covered, is_part, large_task, naive_sets, some_task, task_of,
)
from tests.support import Case


def naive_meets(task, good):
    """The greatest meets of some good examples, one example after the other."""
    found = [tuple(range(len(task.atoms)))]
    for one in good:
        sets = [set(row) for row in naive_sets(task, one)]
        found = greatest_ones({tuple(at for at in row if at in other) for row in found for other in sets})
    return found


class GreatestTest(Case):
    def test_the_worked_example(self):
        self.assertEqual(greatest([(1, 2), (1,), (0, 3), (1, 2)]), [(0, 3), (1, 2)])
        self.assertEqual(meet((0, 2, 5), (2, 3, 5)), (2, 5))

    def test_edges(self):
        self.assertEqual(greatest([]), [])
        self.assertEqual(greatest([()]), [()])
        self.assertEqual(greatest([(), (), (0,)]), [(0,)])
        self.assertEqual(greatest([(3,), (3,)]), [(3,)])
        self.assertEqual(greatest([(5,), (4, 5), (4,), (4, 5, 6)]), [(4, 5, 6)])
        self.assertEqual(greatest([(2, 3), (1,), (0, 9)]), [(0, 9), (1,), (2, 3)])

    def test_numbers_of_any_size(self):
        self.assertEqual(greatest([(7, 10**30), (10**30,), (10**30 + 1,)]), [(7, 10**30), (10**30 + 1,)])

    def test_many_tuples(self):
        rows = [(at, at + 5000) for at in range(3000)]
        self.assertEqual(greatest(rows[::-1] + [(at,) for at in range(3000)]), rows)

    def test_random_cases(self):
        source = random.Random(30)
        for _ in range(200):
            rows = [tuple(sorted(source.sample(range(7), source.randint(0, 5)))) for _ in range(source.randint(0, 8))]
            before = list(rows)
            self.assertEqual(greatest(rows), greatest_ones(rows))
            self.assertEqual(rows, before)


class MeetTest(Case):
    def test_two_tuples(self):
        for first, second, wanted in [((), (), ()), ((1,), (), ()), ((), (1,), ()), ((1, 2), (1, 2), (1, 2)),
                                      ((1, 2, 3), (2,), (2,)), ((0, 4), (1, 3), ()),
                                      ((3, 10**20), (10**20,), (10**20,))]:
            self.assertEqual(meet(first, second), wanted)


class GreatestMeetsTest(Case):
    def test_no_good_example(self):
        task = task_of(HALVES, bad=["ann"])
        self.assertEqual(greatest_meets(task), [(0, 1)])

    def test_one_good_example(self):
        self.assertEqual(greatest_meets(task_of(HALVES, ["bob"])), [(0,)])
        self.assertEqual(greatest_meets(task_of(HALVES, ["dan"])), [()])

    def test_several(self):
        self.assertEqual(greatest_meets(task_of(HALVES, ["ann", "bob"])), [(0,)])
        self.assertEqual(greatest_meets(task_of(HALVES, ["bob", "cid"])), [()])

    def test_several_sets_of_an_example(self):
        text = "known tie 2\nunknown goal 1\nnames 2\nworld u v w\nfact tie(u,v)\nfact tie(w,u)\nfact tie(v,v)\n"
        task = task_of(text, ["u"])
        self.assertEqual(greatest_meets(task), [body(task, "tie(a,b) and tie(b,b)"), body(task, "tie(b,a)")])
        task = task_of(text, ["u", "w"])
        self.assertEqual(greatest_meets(task), [body(task, "tie(a,b)"), body(task, "tie(b,b)")])

    def test_bad_examples_do_not_matter(self):
        self.assertEqual(greatest_meets(task_of(HALVES, ["bob"], ["ann", "cid"])), [(0,)])

    def test_what_covers_all_good_examples_is_a_part_of_a_meet(self):
        source = random.Random(31)
        for _ in range(60):
            task = some_task(source)
            meets = greatest_meets(task)
            self.assertEqual(meets, naive_meets(task, task.good))
            for numbers in all_bodies(task)[::3]:
                wanted = all(is_covered(task, numbers, one) for one in task.good)
                self.assertIs(any(is_part(numbers, row) for row in meets), wanted)

    def test_the_list_is_new(self):
        task = task_of(HALVES, ["bob"])
        greatest_meets(task).append(())
        self.assertEqual(greatest_meets(task), [(0,)])


class LimitTest(Case):
    def test_many_greatest_meets(self):
        task = large_task(places=2, likely=4, shift=2)
        self.assertEqual(greatest_meets(task), naive_meets(task, task.good))
        self.assertEqual(len(greatest_meets(task)), 1142)

    def test_too_many_on_the_way(self):
        """An example without any facts leaves only one meet; what counts is how many there are ahead of it."""
        whole = large_task(places=2, likely=4)
        good = [one for one in [*whole.good, *whole.bad] if one[0] < 3][:7]
        last = (3, "goal", ("x", "x"))

        def call(good):
            worlds = [*whole.worlds[:3], World(["x"], [])]
            return greatest_meets(Task(whole.signature, [], worlds, 4, good=good, bad=[]))

        counts = [len(naive_meets(whole, good[:count])) for count in range(5)]
        self.assertEqual(len(call(good[:4])), counts[4])
        self.assertLess(max(counts), 2001)
        self.assertEqual(call([*good[:4], last]), [()])
        self.large("sets", call, good)
        self.large("sets", call, [*good, last])
        self.assertEqual(call([last, *good]), [()])

    def test_tasks_that_are_not_plain(self):
        for task in NOT_PLAIN:
            self.invalid(InvalidTask, "plain", greatest_meets, task)
