"""Points 34 to 36, and the interface of fewrules/tables.py."""

import random

from fewrules.errors import InvalidTask
from fewrules.fillings import sets_of
from fewrules.tables import judge_table, none_table
from tests.plain_support import (
    HALVES, NOT_PLAIN, all_parts, filling_sets, greatest_ones, is_part, large_task, naive_fitting, some_task, task_of,
)
from tests.support import Case

# Ann is between uma and vic, bob has an edge to one of them alone.
EDGES = """known tie 2
known red 1
unknown goal 1
names 2
world ann bob cid uma vic
fact tie(ann,uma)
fact tie(vic,ann)
fact red(uma)
fact tie(bob,vic)
fact tie(uma,cid)
fact red(cid)
"""


def naive_table(task, lot):
    """The table by the words of point 36, whether a rule fits or not."""
    bads = [(at, filling) for at, one in enumerate(task.bad) for _, filling in sets_of(task, one)]
    bad = [set(row) for one in task.bad for _, row in filling_sets(task, one)]

    def uncaught(rows):
        return greatest_ones([row for row in rows if not any(set(row) <= other for other in bad)])

    levels = [uncaught([tuple(range(len(task.atoms)))])]
    for at in lot:
        sets = [row for _, row in filling_sets(task, task.good[at])]
        levels.append(uncaught([tuple(n for n in body if n in row) for body in levels[-1] for row in sets]))
    return (levels, bads)


def naive_judge(task, lot, table):
    """The conditions of point 34, for tables of any numbers."""
    levels, bads = table
    sets = {(at, filling): row for at, one in enumerate(task.bad) for filling, row in filling_sets(task, one)}
    if not all(row in sets for row in bads) or len(levels) != len(lot) + 1 or levels[-1]:
        return False
    bodies = set(all_parts(range(len(task.atoms))))
    if not all(row in bodies for level in levels for row in level):
        return False

    def is_caught(row, level):
        return any(is_part(row, other) for other in [*level, *[sets[bad] for bad in bads]])

    steps = [is_caught(range(len(task.atoms)), levels[0])]
    for at, level in zip(lot, levels[1:]):
        rows = [row for _, row in filling_sets(task, task.good[at])]
        ahead = levels[len(steps) - 1]
        steps.append(all(is_caught(set(body) & set(row), level) for body in ahead for row in rows))
    return all(steps)


def changed(source, task, table):
    """The table with a few things left out, put in or exchanged."""
    levels, bads = [list(level) for level in table[0]], list(table[1])
    for _ in range(source.randint(1, 2)):
        change = source.choice(["less", "more", "bad", "filling", "level", "cut", "swap"])
        level = source.choice(levels) if levels else []
        if change == "less" and level:
            level.pop(source.randrange(len(level)))
        if change == "more":
            level.append(tuple(sorted(source.sample(range(len(task.atoms)), source.randint(0, 2)))))
        if change == "bad" and bads:
            bads.pop(source.randrange(len(bads)))
        if change == "filling" and task.bad:
            at = source.randrange(len(task.bad))
            bads.append((at, source.choice(filling_sets(task, task.bad[at]))[0]))
        if change == "level":
            levels.insert(source.randint(0, len(levels)), list(level))
        if change == "cut" and levels:
            levels.pop(source.randrange(len(levels)))
        if change == "swap" and level:
            at = source.randrange(len(level))
            level[at] = level[at][1:]
    return (levels, bads)


class NoneTableTest(Case):
    def test_the_empty_lot(self):
        self.assertIsNone(none_table(task_of(HALVES, ["bob"], ["cid"]), ()))
        self.assertIsNone(none_table(task_of(HALVES), ()))
        self.assertEqual(none_table(task_of(HALVES, ["bob"], ["ann"]), ()), ([[]], [(0, ("ann",))]))

    def test_one_example(self):
        task = task_of(HALVES, ["bob", "dan"], ["cid"])
        self.assertIsNone(none_table(task, (0,)))
        self.assertEqual(none_table(task, (1,)), ([[(0, 1)], []], [(0, ("cid",))]))

    def test_several_examples(self):
        task = task_of(HALVES, ["ann", "bob", "cid"], ["dan"])
        self.assertIsNone(none_table(task, (0, 1)))
        self.assertEqual(none_table(task, (1, 2)), ([[(0, 1)], [(0,)], []], [(0, ("dan",))]))
        self.assertEqual(none_table(task, (0, 1, 2)), ([[(0, 1)], [(0, 1)], [(0,)], []], [(0, ("dan",))]))

    def test_several_bad_examples(self):
        task = task_of(HALVES, ["dan"], ["cid", "bob"])
        self.assertEqual(none_table(task, (0,)), ([[(0, 1)], []], [(0, ("cid",)), (1, ("bob",))]))

    def test_what_catches_at_once(self):
        task = task_of(HALVES, ["bob", "cid"], ["dan", "ann"])
        self.assertEqual(none_table(task, (0, 1)), ([[], [], []], [(0, ("dan",)), (1, ("ann",))]))

    def test_fillings_of_sets_in_their_order(self):
        task = task_of(EDGES, ["bob"], ["ann"])
        self.assertEqual(none_table(task, (0,))[1], [(0, ("ann", "uma")), (0, ("ann", "vic"))])
        task = task_of(EDGES, ["bob"], ["cid", "ann"])
        rows = [(at, filling) for at, one in enumerate(task.bad) for _, filling in sets_of(task, one)]
        self.assertEqual(none_table(task, (0,))[1], rows)
        self.assertEqual(rows[-2:], [(1, ("ann", "uma")), (1, ("ann", "vic"))])

    def test_exactly_where_no_rule_fits(self):
        source = random.Random(60)
        told = 0
        for _ in range(150):
            task = some_task(source)
            for lot in all_parts(range(len(task.good))):
                table = none_table(task, lot)
                if naive_fitting(task, lot):
                    self.assertIsNone(table)
                else:
                    told += 1
                    self.assertEqual(table, naive_table(task, lot))
                    self.assertIs(judge_table(task, lot, table), True)
        self.assertGreater(told, 300)

    def test_the_lists_are_new(self):
        task = task_of(HALVES, ["bob", "dan"], ["cid"])
        table = none_table(task, (1,))
        table[0][0].clear()
        table[0].append([])
        table[1].clear()
        self.assertEqual(none_table(task, (1,)), ([[(0, 1)], []], [(0, ("cid",))]))

    def test_at_the_limits(self):
        for task, lots in [(large_task(places=2), [(0, 7), (0, 2, 3), (1, 3, 4, 5)]), (large_task(), [(2, 3, 5, 6)])]:
            for lot in lots:
                table = none_table(task, lot)
                self.assertEqual((len(table[0]), table[0][-1]), (len(lot) + 1, []))
                self.assertIs(judge_table(task, lot, table), True)
                self.assertIs(judge_table(task, lot[1:], table), False)
                self.assertIsNone(none_table(task, lot[1:]))


class JudgeTest(Case):
    TASK = task_of(HALVES, ["ann", "bob", "cid"], ["dan"])
    LEVELS = [[(0, 1)], [(0,)], []]
    BADS = [(0, ("dan",))]

    def judged(self, wanted, levels=None, bads=None, lot=(1, 2), task=None):
        table = (self.LEVELS if levels is None else levels, self.BADS if bads is None else bads)
        self.assertIs(judge_table(task or self.TASK, lot, table), wanted)

    def test_the_told_table_and_larger_ones(self):
        self.judged(True)
        self.judged(True, [[(), (0,), (0, 1), (0, 1)], [(0,), ()], []])
        self.judged(True, bads=self.BADS * 3)

    def test_a_larger_body_must_be_caught_behind(self):
        self.judged(False, [[(0, 1)], [(0, 1)], []])
        self.judged(False, [[(0, 1)], [(0,), (1,)], []])

    def test_what_is_left_out(self):
        self.judged(False, [[], [(0,)], []])
        self.judged(False, [[(0,), (1,)], [(0,)], []])
        self.judged(False, [[(0, 1)], [], []])
        self.judged(False, bads=[])

    def test_numbers_of_levels(self):
        self.judged(False, [])
        self.judged(False, [[]])
        self.judged(False, self.LEVELS[:2])
        self.judged(False, self.LEVELS[1:])
        self.judged(False, [*self.LEVELS, []])
        self.judged(False, [[(0, 1)], [(0,)], [()]])
        self.judged(False, [[(0, 1)], [], [(0,)]])

    def test_bodies_that_are_none(self):
        for row in [(2,), (-1,), (1, 0), (0, 0), (0, 1, 2), (10**30,), (-10**30,), (0,) * 99]:
            self.judged(False, [[(0, 1), row], [(0,)], []])
            self.judged(False, [[(0, 1)], [(0,), row], []])

    def test_bads_that_are_none(self):
        for row in [(1, ("dan",)), (-1, ("dan",)), (0, ("bob",)), (0, ("none",)), (0, ()), (0, ("dan", "dan")),
                    (10**30, ("dan",)), (0, ("",)), (), (0,), (0, ("dan",), 0)]:
            self.judged(False, bads=[*self.BADS, row])
            self.judged(False, bads=[row])

    def test_tables_of_other_lengths(self):
        for table in [(), (self.LEVELS,), (self.LEVELS, self.BADS, [])]:
            self.assertIs(judge_table(self.TASK, (1, 2), table), False)

    def test_other_lots(self):
        self.judged(False, lot=(1,))
        self.judged(False, lot=(0, 1))
        self.judged(False, lot=())
        self.judged(False, lot=(0, 1, 2))
        self.judged(False, [[]], [], (), task_of(HALVES, ["ann"]))

    def test_the_empty_lot(self):
        task = task_of(HALVES, ["bob"], ["dan", "ann"])
        self.judged(True, [[]], [(1, ("ann",))], (), task)
        self.judged(False, [[]], [(0, ("dan",))], (), task)
        self.judged(False, [[(0, 1)]], [(1, ("ann",))], (), task)

    def test_all_fillings_of_a_bad_example_may_stand(self):
        task = task_of(EDGES, ["bob"], ["ann"])
        levels, bads = none_table(task, (0,))
        every = [(0, filling) for filling, _ in filling_sets(task, task.bad[0])]
        self.assertEqual((len(every), len(bads)), (5, 2))
        self.judged(True, levels, every[::-1], (0,), task)
        self.judged(False, levels, [row for row in every if row not in bads], (0,), task)

    def test_what_is_accepted_is_what_the_document_says(self):
        source = random.Random(61)
        counts = {True: 0, False: 0}
        for _ in range(150):
            task = some_task(source, counts=(source.randint(1, 3), source.randint(0, 3)))
            lot = source.choice(all_parts(range(len(task.good))))
            for _ in range(8):
                table = changed(source, task, naive_table(task, lot))
                before = repr(table)
                wanted = naive_judge(task, lot, table)
                self.assertIs(judge_table(task, lot, table), wanted)
                self.assertEqual(repr(table), before)
                self.assertFalse(wanted and naive_fitting(task, lot))
                counts[wanted] += 1
        self.assertGreater(min(counts.values()), 150)


class WorkedTest(Case):
    def test_the_worked_example(self):
        task = task_of("known red 1\nunknown goal 1\nnames 1\nworld ann bob\nfact red(ann)\n", ["bob"], ["ann"])
        self.assertEqual(none_table(task, (0,)), ([[], []], [(0, ("ann",))]))
        self.assertIs(judge_table(task, (0,), ([[], []], [(0, ("ann",))])), True)


class PlainTest(Case):
    def test_tasks_that_are_not_plain(self):
        for task in NOT_PLAIN:
            self.invalid(InvalidTask, "plain", none_table, task, ())
            self.invalid(InvalidTask, "plain", judge_table, task, (), ())
            self.invalid(InvalidTask, "plain", judge_table, task, (), ([[(-1,)]], [(5, ())]))
