"""Points 63 to 67, and the interface of fewrules/programs.py."""

import copy
import random
from itertools import product

from fewrules.errors import InvalidTheory, NoTheory, UnknownExample
from fewrules.marbles import first_kept, is_kept, is_keeping, keeping_list
from fewrules.programs import (
    accepts_paper, facts_of, helper_says, made_program, paper, program_fits, rows_of,
)
from fewrules.texts import read_task
from tests.support import Case, all_rows
from tests.test_marbles import ONE, TWO, all_examples, chain_task, some_task

PROGRAM = ([1], [(0, [("tie", (0, 1))]), ("goal", [(0, (0,))])])
LINE = read_task("known tie 2\nunknown way 2\nunknown end 1\nnames 3\nworld c a b\nfact tie(a,b)\nfact tie(b,c)\n"
                 "world x\n")


def naive_facts(task, program, world):
    """The facts of a program by the words of point 64, a set of tuples (symbol, constants)."""
    tables, rules = program
    places = {**dict(enumerate(tables)), **dict(task.signature.unknown)}
    facts = set()
    while True:
        there = facts | set(task.closed[world])
        further = set()
        for symbol, body in rules:
            for placing in all_rows(task.worlds[world].constants, task.names):
                if all((one, tuple(placing[name] for name in names)) in there for one, names in body):
                    further.add((symbol, placing[:places[symbol]]))
        if further <= facts:
            return facts
        facts |= further


def some_program(source, task):
    """A program with a few tables and rules."""
    tables = [source.randint(0, task.names) for _ in range(source.randint(0, 3))]
    places = {**dict(enumerate(tables)), **dict(task.signature.known), **dict(task.signature.unknown)}
    heads = [*range(len(tables)), *[name for name, _ in task.signature.unknown]]
    rules = []
    for _ in range(source.randint(0, 6)):
        body = []
        for _ in range(source.randint(0, 3)):
            symbol = source.choice(list(places))
            body.append((symbol, tuple(source.randrange(task.names) for _ in range(places[symbol]))))
        rules.append((source.choice(heads), body))
    return tables, rules


class WorkedTest(Case):
    def test_the_worked_example(self):
        self.assertEqual((paper(ONE)[0], accepts_paper(ONE, paper(ONE))), ("kept", True))
        self.assertEqual(helper_says(TWO, (0, "goal", ("ann",))), "sure")
        self.assertEqual((facts_of(TWO, PROGRAM, 0), program_fits(TWO, PROGRAM)), ([("goal", ("ann",))], True))


class FactsTest(Case):
    def test_in_order(self):
        program = ([], [("end", []), ("way", [("tie", (0, 1))]), ("way", [("way", (0, 2)), ("way", (2, 1))])])
        ways = [("way", row) for row in [("a", "c"), ("a", "b"), ("b", "c")]]
        self.assertEqual(facts_of(LINE, program, 0), ways + [("end", (name,)) for name in "cab"])
        self.assertEqual(facts_of(LINE, program, 1), [("end", ("x",))])

    def test_tables(self):
        program = ([2, 0, 3, 1], [(0, [("tie", (1, 0))]), (1, [(0, (0, 1)), (0, (1, 2))]), (2, [(0, (2, 0))]),
                                  ("end", [(1, ()), (3, (0,))]), (3, [(0, (1, 0))])])
        self.assertEqual(rows_of(LINE, program, 0, 0), [("c", "b"), ("b", "a")])
        self.assertEqual(rows_of(LINE, program, 0, 1), [()])
        self.assertEqual(rows_of(LINE, program, 1, 1), [])
        self.assertEqual(rows_of(LINE, program, 0, 2), [
            ("a", "c", "b"), ("a", "a", "b"), ("a", "b", "b"), ("b", "c", "c"), ("b", "a", "c"), ("b", "b", "c")])
        self.assertEqual(rows_of(LINE, program, 0, 3), [("a",), ("b",)])
        self.assertEqual(facts_of(LINE, program, 0), [("end", ("a",)), ("end", ("b",))])
        self.assertEqual(facts_of(LINE, program, 1), [])

    def test_names_several_times(self):
        program = ([2], [(0, []), ("end", [(0, (1, 1)), ("tie", (0, 2))]), ("way", [("way", (0, 0))])])
        self.assertEqual(facts_of(LINE, program, 0), [("end", ("a",)), ("end", ("b",))])
        self.assertEqual(len(rows_of(LINE, program, 0, 0)), 9)
        self.assertEqual(rows_of(LINE, program, 1, 0), [("x", "x")])

    def test_no_tables_and_no_rules(self):
        self.assertEqual((facts_of(LINE, ([], []), 0), program_fits(LINE, ([], []))), ([], True))
        self.assertIs(program_fits(TWO, ([], [])), False)

    def test_unknown_relations_may_call_without_calls(self):
        program = ([], [("end", [("tie", (1, 0))]), ("end", [("end", (1,)), ("tie", (1, 0))])])
        self.assertIs(LINE.calls, False)
        self.assertEqual(facts_of(LINE, program, 0), [("end", ("c",)), ("end", ("b",))])

    def test_background_and_more_places_than_names(self):
        task = read_task("known p 3\nknown q 1\nunknown goal 1\nnames 2\nrule q(a) if p(a,b,c)\nworld a b\n"
                         "fact p(a,b,b)\nfact p(b,a,b)\n")
        program = ([], [("goal", [("p", (0, 1, 1)), ("q", (0,))])])
        self.assertEqual(facts_of(task, program, 0), [("goal", ("a",))])

    def test_random_programs(self):
        source = random.Random(240)
        lengths = []
        for _ in range(150):
            task = some_task(source)
            program = some_program(source, task)
            told = copy.deepcopy(program)
            for world in range(len(task.worlds)):
                facts = naive_facts(task, program, world)
                expected = [(name, row) for name, places in task.signature.unknown
                            for row in all_rows(task.worlds[world].constants, places) if (name, row) in facts]
                self.assertEqual(facts_of(task, program, world), expected)
                for table, places in enumerate(program[0]):
                    rows = [row for row in all_rows(task.worlds[world].constants, places) if (table, row) in facts]
                    self.assertEqual(rows_of(task, program, world, table), rows)
                lengths.append(len(facts))
            said = [one for one in all_examples(task) if one[1:] in naive_facts(task, program, one[0])]
            fine = set(task.good) <= set(said) and not set(task.bad) & set(said)
            self.assertIs(program_fits(task, program), fine)
            self.assertIs(accepts_paper(task, ("program", program)), fine)
            self.assertEqual(program, told)
        self.assertGreater(max(lengths), 8)

    def test_four_names_and_six_constants(self):
        task = chain_task(4, 6)
        program = ([4, 2], [(0, [("tie", (0, 1)), ("tie", (1, 2)), ("tie", (2, 3))]), (1, [(0, (0, 2, 3, 1))]),
                            (1, [(1, (0, 2)), (1, (2, 1))]), ("goal", [(1, (0, 1))])])
        self.assertEqual(rows_of(task, program, 0, 0), [tuple("abcd"), tuple("bcde"), tuple("cdef")])
        self.assertEqual(rows_of(task, program, 0, 1), [("a", "d"), ("b", "e"), ("c", "f")])

    def test_what_is_returned_is_new(self):
        facts_of(TWO, PROGRAM, 0).clear()
        rows_of(TWO, PROGRAM, 0, 0).clear()
        self.assertEqual((facts_of(TWO, PROGRAM, 0), rows_of(TWO, PROGRAM, 0, 0)), ([("goal", ("ann",))], [("ann",)]))


class WrongTest(Case):
    def wrong(self, reason, tables, rules):
        program = (tables, rules)
        for call, rest in [(facts_of, (program, 0)), (rows_of, (program, 0, 0)), (program_fits, (program,)),
                           (accepts_paper, (("program", program),))]:
            self.invalid(InvalidTheory, reason, call, TWO, *rest)

    def test_tables(self):
        for tables in ([3], [-1], [0, 1, 2, 3], [10**20]):
            self.wrong("table", tables, [])
            self.wrong("table", tables, [("none", []), (0, [("none", ())])])

    def test_symbols_of_rules(self):
        for symbol in (1, -1, 10**20, "tie", "none", "", "0"):
            self.wrong("unknown", [1], [(symbol, [])])
            self.wrong("unknown", [1], [(0, []), (symbol, [("none", ())])])
        self.wrong("unknown", [], [(0, [])])

    def test_bodies(self):
        for one in [("none", (0,)), (1, (0,)), (-1, (0,)), ("tie", (0,)), ("tie", (0, 1, 1)), ("tie", ()), (0, ()),
                    (0, (0, 1)), ("tie", (0, 2)), ("tie", (-1, 0)), ("goal", (2,)), ("goal", ()), ("", ())]:
            self.wrong("body", [1], [(0, [one])])
            self.wrong("body", [1], [(0, [("tie", (0, 0))]), ("goal", [(0, (1,)), one]), ("none", [])])

    def test_the_first_wrong_rule_comes_first(self):
        self.wrong("unknown", [1], [("none", []), (0, [("none", ())])])
        self.wrong("body", [1], [(0, [("none", ())]), ("none", [])])


class MadeTest(Case):
    def test_what_it_says(self):
        source = random.Random(241)
        made = 0
        for _ in range(80):
            task = some_task(source)
            program = made_program(task)
            self.assertEqual(program is None, first_kept(task) is not None)
            if program is None:
                continue
            made += 1
            self.assertIs(program_fits(task, program), True)
            for world in range(len(task.worlds)):
                facts = facts_of(task, program, world)
                for one in all_examples(task):
                    if one[0] == world:
                        kept = any(is_kept(task, one, bad) for bad in task.bad)
                        self.assertIs(one[1:] in facts, not kept)
        self.assertGreater(made, 30)

    def test_programs_that_fit_say_no_other(self):
        source = random.Random(242)
        fitting = 0
        for _ in range(400):
            task = some_task(source, most=1)
            program = some_program(source, task)
            if program_fits(task, program):
                fitting += 1
                made = made_program(task)
                for world in range(len(task.worlds)):
                    self.assertLessEqual(set(facts_of(task, program, world)), set(facts_of(task, made, world)))
        self.assertGreater(fitting, 50)

    def test_kept_examples_are_said_too(self):
        source = random.Random(243)
        for _ in range(60):
            task = some_task(source)
            program = some_program(source, task)
            said = {one for one in all_examples(task) if one[1:] in facts_of(task, program, one[0])}
            for one, other in product(all_examples(task), repeat=2):
                if one in said and is_kept(task, one, other):
                    self.assertIn(other, said)

    def test_large_worlds(self):
        for names, constants in [(2, 6), (3, 4), (4, 2)]:
            task = chain_task(names, constants)
            self.assertIs(program_fits(task, made_program(task)), True)
        for call in (made_program, paper):
            self.large("pairs", call, chain_task(3, 5))

    def test_what_is_returned_is_new(self):
        program = made_program(TWO)
        before = copy.deepcopy(program)
        program[0].clear()
        program[1][0][1].clear()
        program[1].clear()
        self.assertEqual(made_program(TWO), before)


class PaperTest(Case):
    def test_papers_of_both_kinds(self):
        source = random.Random(244)
        kinds = {"kept": 0, "program": 0}
        for _ in range(60):
            task = some_task(source)
            told = paper(task)
            self.assertIs(accepts_paper(task, told), True)
            kinds[told[0]] += 1
            if told[0] == "kept":
                self.assertEqual(told[1:3], first_kept(task))
                self.assertEqual(told[3], keeping_list(task, told[1][0], told[2][0]))
            else:
                self.assertEqual(told[1], made_program(task))
        self.assertGreater(min(kinds.values()), 10)

    def test_changed_papers(self):
        word, good, bad, pairs = paper(ONE)
        self.assertEqual((word, good, bad), ("kept", ONE.good[0], ONE.bad[0]))
        enough = [(("ann",), ("bob",)), (("bob",), ("bob",))]
        self.assertIs(accepts_paper(ONE, ("kept", good, bad, enough)), True)
        self.assertIs(accepts_paper(ONE, ("kept", good, bad, pairs * 2)), True)
        for told in [("kept", bad, good, pairs), ("kept", good, good, pairs), ("kept", bad, bad, pairs),
                     ("kept", good, bad, []), ("kept", good, bad, enough[:1]), ("kept", good, bad, enough[1:]),
                     ("kept", good, bad, [(("ann",), ("ann",)), (("bob",), ("bob",))]),
                     ("kept", good, bad, enough + [(("x",), ("bob",))]), ("kept", good, bad, enough + [((), ())]),
                     ("kept", (0, "goal", ("x",)), bad, pairs), ("kept", (5, "goal", ("ann",)), bad, pairs),
                     ("kept", good, (0, "none", ("bob",)), pairs), ("kept", good, (0, "goal", ()), pairs)]:
            self.assertIs(accepts_paper(ONE, told), False, told)
        self.assertIs(accepts_paper(TWO, ("program", ([], []))), False)
        self.assertIs(accepts_paper(TWO, ("program", ([], [("goal", [])]))), False)
        self.assertIs(accepts_paper(TWO, ("program", PROGRAM)), True)

    def test_examples_of_different_relations(self):
        task = read_task("known red 1\nunknown goal 1\nunknown aim 1\nnames 1\nworld a\ngood 0 goal(a)\nbad 0 aim(a)\n")
        pairs = keeping_list(task, 0, 0)
        self.assertIs(is_keeping(task, 0, 0, pairs), True)
        self.assertIs(accepts_paper(task, ("kept", task.good[0], task.bad[0], pairs)), False)
        self.assertEqual(paper(task)[0], "program")


class HelperTest(Case):
    def test_against_what_is_kept(self):
        source = random.Random(245)
        counts = {"sure": 0, "never": 0, "open": 0}
        for _ in range(80):
            task = some_task(source)
            for one in all_examples(task):
                if first_kept(task) is not None:
                    self.raises(NoTheory, {}, helper_says, task, one)
                    continue
                word = helper_says(task, one)
                sure = any(is_kept(task, good, one) for good in task.good)
                never = any(is_kept(task, one, bad) for bad in task.bad)
                self.assertEqual(word, "sure" if sure else "never" if never else "open")
                counts[word] += 1
        self.assertGreater(min(counts.values()), 10)

    def test_its_own_examples(self):
        self.assertEqual([helper_says(TWO, one) for one in TWO.good + TWO.bad], ["sure", "never"])

    def test_errors_in_their_order(self):
        wrong = [(1, "goal", ("ann",)), (0, "tie", ("ann", "bob")), (0, "goal", ("x",)), (0, "goal", ())]
        for one in wrong:
            self.raises(UnknownExample, {"example": one}, helper_says, TWO, one)
            self.raises(UnknownExample, {"example": one}, helper_says, ONE, one)
            self.raises(UnknownExample, {"example": one}, helper_says, chain_task(4, 6), one)
        self.large("pairs", helper_says, chain_task(4, 6), (0, "goal", ("a",)))
        self.raises(NoTheory, {}, helper_says, ONE, (0, "goal", ("ann",)))
