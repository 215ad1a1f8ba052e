"""Points 34, 37 and 38, and the interface of fewrules/lots.py."""

import random

from fewrules.errors import InvalidTask
from fewrules.lots import hard_lots, is_easy, judge_lots, lot_paper
from fewrules.tables import judge_table, none_table
from tests.plain_support import (
    HALVES, NOT_PLAIN, all_parts, is_part, large_task, naive_fitting, naive_hard_lots, some_task, task_of,
    unary_task,
)
from tests.support import Case
from tests.test_tables import changed, naive_judge


class WorkedTest(Case):
    def test_the_worked_example(self):
        task = task_of("known red 1\nunknown goal 1\nnames 1\nworld ann bob\nfact red(ann)\n", ["bob"], ["ann"])
        self.assertEqual(hard_lots(task), [(0,)])
        self.assertEqual(none_table(task, (0,)), ([[], []], [(0, ("ann",))]))


class EasyTest(Case):
    def test_lots(self):
        task = task_of(HALVES, ["ann", "bob", "cid"], ["dan"])
        self.assertEqual([lot for lot in all_parts(range(3)) if not is_easy(task, lot)], [(1, 2), (0, 1, 2)])

    def test_the_empty_lot(self):
        self.assertIs(is_easy(task_of(HALVES), ()), True)
        self.assertIs(is_easy(task_of(HALVES, ["ann"], ["bob"]), ()), True)
        self.assertIs(is_easy(task_of(HALVES, ["bob"], ["ann"]), ()), False)

    def test_random_cases(self):
        source = random.Random(70)
        for _ in range(100):
            task = some_task(source)
            for lot in all_parts(range(len(task.good))):
                self.assertIs(is_easy(task, lot), bool(naive_fitting(task, lot)))


class HardLotsTest(Case):
    def test_no_bad_example(self):
        self.assertEqual(hard_lots(task_of(HALVES, ["ann", "bob", "cid", "dan"])), [])

    def test_no_good_example(self):
        self.assertEqual(hard_lots(task_of(HALVES, [], ["dan"])), [])
        self.assertEqual(hard_lots(task_of(HALVES, [], ["ann"])), [])

    def test_where_the_empty_lot_is_hard(self):
        self.assertEqual(hard_lots(task_of(HALVES, ["bob", "cid"], ["ann"])), [(0,), (1,)])

    def test_small_ones_first(self):
        self.assertEqual(hard_lots(task_of(HALVES, ["ann", "bob", "cid"], ["dan"])), [(1, 2)])
        text = "known p 1\nknown q 1\nknown r 1\nunknown goal 1\nnames 1\nworld u v w x y z\n"
        rows = {"u": "pq", "v": "qr", "w": "pr", "x": "p"}
        text += "".join(f"fact {name}({constant})\n" for constant in rows for name in rows[constant])
        task = task_of(text, ["u", "v", "w", "y"], ["z"])
        self.assertEqual(hard_lots(task), [(3,), (0, 1, 2)])
        task = task_of(text, ["u", "v", "w", "x"], ["z"])
        self.assertEqual(hard_lots(task), [(1, 3), (0, 1, 2)])

    def test_random_cases(self):
        source = random.Random(71)
        sizes = {size: 0 for size in range(1, 7)}
        for at in range(600):
            task = some_task(source, most=6) if at % 2 else unary_task(source)
            found = hard_lots(task)
            self.assertEqual(found, naive_hard_lots(task))
            for lot in found:
                sizes[len(lot)] += 1
        self.assertGreater(min(sizes[1], sizes[2], sizes[3]), 20)

    def test_a_lot_is_hard_exactly_if_it_holds_a_least_one(self):
        source = random.Random(72)
        for _ in range(40):
            task = some_task(source)
            found = hard_lots(task)
            for lot in all_parts(range(len(task.good)))[1:]:
                self.assertIs(is_easy(task, lot), not any(is_part(row, lot) for row in found))

    def test_the_list_is_new(self):
        task = task_of(HALVES, ["bob", "cid"], ["dan"])
        hard_lots(task).clear()
        self.assertEqual(hard_lots(task), [(0, 1)])


class PaperTest(Case):
    def test_all_least_hard_lots_with_their_tables(self):
        source = random.Random(73)
        for at in range(60):
            task = some_task(source) if at % 2 else unary_task(source)
            paper = lot_paper(task)
            self.assertEqual(paper, [(lot, none_table(task, lot)) for lot in hard_lots(task)])
            self.assertIs(judge_lots(task, paper), True)

    def test_no_lots(self):
        task = task_of(HALVES, ["ann"])
        self.assertEqual(lot_paper(task), [])
        self.assertIs(judge_lots(task, []), True)

    def test_the_lists_are_new(self):
        task = task_of(HALVES, ["dan", "bob"], ["cid", "ann"])
        paper = lot_paper(task)
        self.assertEqual(len(paper), 2)
        paper[0][1][0][0].append((5,))
        paper[0][1][0].clear()
        paper[0][1][1].clear()
        self.assertEqual(paper[1][1], none_table(task, (1,)))
        self.assertEqual(lot_paper(task), [((at,), none_table(task, (at,))) for at in (0, 1)])


class JudgeTest(Case):
    TASK = task_of(HALVES, ["ann", "bob", "cid"], ["dan"])
    TABLE = ([[(0, 1)], [(0,)], []], [(0, ("dan",))])
    LARGER = ([[(0, 1)], [(0, 1)], [(0,)], []], [(0, ("dan",))])

    def judged(self, wanted, *paper):
        self.assertIs(judge_lots(self.TASK, list(paper)), wanted)

    def test_papers(self):
        self.judged(True)
        self.judged(True, ((1, 2), self.TABLE))
        self.judged(True, ((0, 1, 2), self.LARGER))
        self.judged(True, ((0, 1, 2), self.LARGER), ((1, 2), self.TABLE), ((1, 2), self.TABLE))

    def test_tables_that_are_exchanged(self):
        self.judged(False, ((1, 2), self.LARGER))
        self.judged(False, ((0, 1, 2), self.TABLE))
        self.judged(False, ((1, 2), self.TABLE), ((0, 1), self.TABLE))
        self.judged(False, ((1,), ([[(0, 1)], []], [(0, ("dan",))])))

    def test_lots_that_are_none(self):
        for lot in [(2, 1), (1, 1), (1, 3), (-2, 2), (-1, 2), (1, 10**30), (1, 2, 2), (2, 1, 0)]:
            self.judged(False, (lot, self.TABLE if len(lot) == 2 else self.LARGER))
            self.judged(False, ((1, 2), self.TABLE), (lot, self.TABLE if len(lot) == 2 else self.LARGER))

    def test_lots_that_are_none_with_tables_that_would_do(self):
        task = task_of(HALVES, ["dan", "cid"], ["bob"])
        levels = [[(0, 1)], [], []]
        for lot, wanted in [((0, 1), True), ((0, 0), False), ((1, 0), False), ((0, 2), False), ((0, -1), False)]:
            self.assertIs(judge_lots(task, [(lot, (levels, [(0, ("bob",))]))]), wanted)
        self.assertIs(judge_lots(task, [((0,), (levels[:2], [(0, ("bob",))]))]), True)

    def test_the_empty_lot(self):
        task = task_of(HALVES, ["bob"], ["ann"])
        table = none_table(task, ())
        self.assertIs(judge_table(task, (), table), True)
        self.assertIs(judge_lots(task, [((), table)]), False)

    def test_tables_of_any_lengths(self):
        for table in [(), ([],), ([], []), ([[]], []), ([[(5,)], [], []], [(7, ())]), ([[], [], []], [()])]:
            self.judged(False, ((1, 2), table))

    def test_papers_of_random_cases(self):
        source = random.Random(74)
        counts = {True: 0, False: 0}
        for at in range(250):
            counts_here = (source.randint(2, 4), source.randint(1, 3))
            task = some_task(source, counts=counts_here) if at % 2 else unary_task(source)
            paper = lot_paper(task)
            source.shuffle(paper)
            paper = paper[:source.randint(0, 3)] + paper[:source.randint(0, 1)]
            if paper and source.random() < 0.7:
                at = source.randrange(len(paper))
                paper[at] = (paper[at][0], changed(source, task, paper[at][1]))
            wanted = all(naive_judge(task, lot, table) for lot, table in paper)
            self.assertIs(judge_lots(task, paper), wanted)
            counts[wanted] += bool(paper)
        self.assertGreater(min(counts.values()), 30)


class LimitTest(Case):
    """64 atoms, 8 good and 8 bad examples, four worlds of six constants, four names."""

    def test_one_place(self):
        task = large_task()
        paper = lot_paper(task)
        self.assertEqual([lot for lot, _ in paper], hard_lots(task))
        self.assertEqual((len(paper), max(len(lot) for lot, _ in paper)), (19, 4))
        self.assertIs(judge_lots(task, paper), True)
        self.assertIs(is_easy(task, paper[-1][0][1:]), True)
        paper[-1][1][1].clear()
        self.assertIs(judge_lots(task, paper), False)

    def test_two_and_three_places(self):
        for places, wide, likely in [(2, 11, 4), (2, 9, 3), (3, 7, 2), (3, 7, 4)]:
            task = large_task(places=places, wide=wide, likely=likely)
            paper = lot_paper(task)
            self.assertIs(judge_lots(task, paper), True)
            for lot, _ in paper[::5]:
                self.assertTrue(len(lot) == 1 or is_easy(task, lot[1:]))

    def test_dense_worlds(self):
        for good, bad, shift in [(8, 8, 1), (7, 2, 2)]:
            self.assertEqual(hard_lots(large_task(good, bad, likely=5, shift=shift)), [])


class PlainTest(Case):
    def test_tasks_that_are_not_plain(self):
        for task in NOT_PLAIN:
            self.invalid(InvalidTask, "plain", is_easy, task, ())
            self.invalid(InvalidTask, "plain", hard_lots, task)
            self.invalid(InvalidTask, "plain", lot_paper, task)
            for paper in [[], [((3, 2), ())], [((), ([], []))]]:
                self.invalid(InvalidTask, "plain", judge_lots, task, paper)
